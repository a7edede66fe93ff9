/- Plain facts about lists of bytes and the number that they are, the greatest byte first: nothing of the program is in here. -/
import Derived.WalkKit
import Derived.ProofKit
import Derived.Laws.BitsLemmas
import Derived.Laws.BytesArg
import Derived.Deep.QuietTactic
import Derived.BigQuiet
namespace Go.Proofs.Ytmeafeomfblncaa.Oct
open Go.RowKit

theorem ret_int {k : IntKind} {a b : Int} (h : a = b) : Ending.returned (.int k a) = .returned (.int k b) := by rw [h]

/-- The number that bytes are, the greatest first. -/
def num (l : List UInt8) : Nat := l.foldl (fun n b => n * 256 + b.toNat) 0

theorem num_snoc (l : List UInt8) (b : UInt8) : num (l ++ [b]) = num l * 256 + b.toNat := by
  unfold num; rw [List.foldl_append]; rfl

theorem num_nil : num [] = 0 := rfl

theorem snoc_of (l : List UInt8) (h : 0 < l.length) : ∃ l' b, l = l' ++ [b] := by
  have hne : l ≠ [] := by intro e; rw [e] at h; simp at h
  exact ⟨_, _, (List.dropLast_concat_getLast hne).symm⟩

theorem num_lt (n : Nat) : ∀ l : List UInt8, l.length = n → num l < 256 ^ n := by
  induction n with
  | zero => intro l hl; rw [List.length_eq_zero_iff.1 hl]; decide
  | succ n ih =>
    intro l hl
    obtain ⟨l', b, rfl⟩ := snoc_of l (by omega)
    rw [num_snoc]
    have h1 := ih l' (by simpa using hl)
    have h2 := b.toNat_lt
    rw [Nat.pow_succ]
    omega

/-- n in k bytes, the greatest first. -/
def be : Nat → Nat → List UInt8
  | 0, _ => []
  | k + 1, n => be k (n / 256) ++ [UInt8.ofNat n]

theorem be_length : ∀ k n : Nat, (be k n).length = k
  | 0, _ => rfl
  | k + 1, n => by simp [be, be_length k]

theorem num_be : ∀ k n : Nat, n < 256 ^ k → num (be k n) = n
  | 0, n => by intro h; simp at h; simp [be, num, h]
  | k + 1, n => by
    intro h
    rw [Nat.pow_succ] at h
    rw [be, num_snoc, num_be k (n / 256) (by omega)]
    simp only [UInt8.toNat_ofNat']
    omega

theorem num_be_mod (k n : Nat) : num (be k n) = n % 256 ^ k := by
  induction k generalizing n with
  | zero => simp [be, num, Nat.mod_one]
  | succ k ih =>
    rw [be, num_snoc, ih, Nat.pow_succ]
    simp only [UInt8.toNat_ofNat']
    have h := Nat.mod_mul (x := n) (a := 256) (b := 256 ^ k)
    rw [Nat.mul_comm (256 ^ k) 256, h]
    omega

theorem be_num : ∀ (k : Nat) (l : List UInt8), l.length = k → be k (num l) = l
  | 0, l => by intro h; rw [List.length_eq_zero_iff.1 h]; rfl
  | k + 1, l => by
    intro hl
    obtain ⟨l', b, rfl⟩ := snoc_of l (by omega)
    have h2 := b.toNat_lt
    rw [num_snoc, be]
    have hd : (num l' * 256 + b.toNat) / 256 = num l' := by omega
    have hb : UInt8.ofNat (num l' * 256 + b.toNat) = b := by
      apply UInt8.toNat_inj.1
      simp only [UInt8.toNat_ofNat']
      omega
    rw [hd, hb, be_num k l' (by simpa using hl)]

theorem take_snoc (s : ByteArray) (k : Nat) (h : k < s.size) : s.data.toList.take (k + 1) = s.data.toList.take k ++ [s[k]] := by
  rw [List.take_succ_eq_append_getElem (by simpa using h)]; rfl

theorem num_take_succ (s : ByteArray) (k : Nat) (h : k < s.size) : num (s.data.toList.take (k + 1)) = num (s.data.toList.take k) * 256 + s[k].toNat := by
  rw [take_snoc s k h, num_snoc]

theorem num_take_lt (s : ByteArray) (k : Nat) (h : k ≤ 3) : num (s.data.toList.take k) < 16777216 := by
  have h1 := num_lt (s.data.toList.take k).length (s.data.toList.take k) rfl
  have h2 : (s.data.toList.take k).length ≤ 3 := by rw [List.length_take]; omega
  have h3 : 256 ^ (s.data.toList.take k).length ≤ 256 ^ 3 := Nat.pow_le_pow_right (by decide) h2
  omega

theorem wraps_i64 (n : Int) (h₀ : 0 ≤ n) (h₁ : n < 2 ^ 40) : IntKind.i64.wrap n = n := by rw [IntKind.wrap_i64]; omega

theorem or_byte (x y : Int) (h0 : 0 ≤ x) (h1 : x < 16777216) (h2 : 0 ≤ y) (h3 : y < 256) : bits .or .i64 (x * 256) y = x * 256 + y :=
  bits_join .i64 40 (by decide) wraps_i64 8 (x * 256) y (by omega) (by omega) (by omega) h2 (by omega) (by omega)

theorem ret_sb {a b : ByteArray} (h : a = b) : Ending.returned (.tuple #[.string a, .bool true]) = .returned (.tuple #[.string b, .bool true]) := by rw [h]
theorem ret_ib {a b : Int} (h : a = b) : Ending.returned (.tuple #[.int .i64 a, .bool true]) = .returned (.tuple #[.int .i64 b, .bool true]) := by rw [h]

theorem ofNat_congr (a b : Nat) (h : a % 256 = b % 256) : UInt8.ofNat a = UInt8.ofNat b := by
  apply UInt8.toNat_inj.1
  simp only [UInt8.toNat_ofNat']
  omega

theorem str1 (n : Int) : strOfNums [n] = ⟨(be 1 n.toNat).toArray⟩ := by
  simp [strOfNums, be]
theorem str2 (n : Int) (h : 0 ≤ n) : strOfNums [n / 256, n % 256] = ⟨(be 2 n.toNat).toArray⟩ := by
  simp only [strOfNums, be, List.map_cons, List.map_nil, List.nil_append, List.cons_append]
  rw [ofNat_congr (n / 256).toNat (n.toNat / 256) (by omega), ofNat_congr (n % 256).toNat n.toNat (by omega)]
theorem str3 (n : Int) (h : 0 ≤ n) : strOfNums [n / 65536, n / 256 % 256, n % 256] = ⟨(be 3 n.toNat).toArray⟩ := by
  simp only [strOfNums, be, List.map_cons, List.map_nil, List.nil_append, List.cons_append]
  rw [ofNat_congr (n / 65536).toNat (n.toNat / 256 / 256) (by omega), ofNat_congr (n / 256 % 256).toNat (n.toNat / 256) (by omega), ofNat_congr (n % 256).toNat n.toNat (by omega)]
theorem str4 (n : Int) (h : 0 ≤ n) : strOfNums [n / 16777216, n / 65536 % 256, n / 256 % 256, n % 256] = ⟨(be 4 n.toNat).toArray⟩ := by
  simp only [strOfNums, be, List.map_cons, List.map_nil, List.nil_append, List.cons_append]
  rw [ofNat_congr (n / 16777216).toNat (n.toNat / 256 / 256 / 256) (by omega), ofNat_congr (n / 65536 % 256).toNat (n.toNat / 256 / 256) (by omega), ofNat_congr (n / 256 % 256).toNat (n.toNat / 256) (by omega), ofNat_congr (n % 256).toNat n.toNat (by omega)]

theorem grown_trans {a b c : World} (h : Grown a b) (k : Grown b c) : Grown a c :=
  ⟨World.keptBut_trans h.1 k.1, fun x => (k.2.1 x).trans (h.2.1 x), Nat.le_trans h.2.2 k.2.2⟩
theorem grown_drewN {a b : World} (h : Grown a b) (n : Nat) : Grown a (b.drewN n) := by
  induction n generalizing b with
  | zero => exact h
  | succ n ih => exact ih h.drew

/-- The four sizes. -/
theorem sizes {size : Int} (h1 : 1 ≤ size) (h2 : size ≤ 4) : size = 1 ∨ size = 2 ∨ size = 3 ∨ size = 4 := by omega

/-- The bytes l with the k bytes of n from p on instead of what stood there. -/
def put (l : List UInt8) (p k n : Nat) : List UInt8 := l.take p ++ be k n ++ l.drop (p + k)
theorem put_length (l : List UInt8) (p k n : Nat) (h : p + k ≤ l.length) : (put l p k n).length = l.length := by
  simp [put, be_length]; omega

theorem ext_size (s : ByteArray) (a b : Nat) (h : b ≤ s.size) : (s.extract a b).size = b - a := by
  rw [ByteArray.size_extract]; omega
theorem ext_list (s : ByteArray) (a b : Nat) : (s.extract a b).data.toList = (s.data.toList.take b).drop a := by
  simp [ByteArray.data_extract, List.extract_eq_take_drop, List.drop_take]
theorem ext_mid (s : ByteArray) (pos size : Int) (h0 : 0 ≤ pos) (h1 : 0 ≤ size) :
    (s.extract pos.toNat (pos + size).toNat).data.toList = (s.data.toList.drop pos.toNat).take size.toNat := by
  rw [ext_list, List.drop_take]
  congr 1
  omega

theorem len_eq (s : ByteArray) : s.data.toList.length = s.size := by rw [Array.length_toList]; rfl
theorem mk_size (l : List UInt8) : (ByteArray.mk l.toArray).size = l.length := by
  exact List.size_toArray
theorem ba_ext {a b : ByteArray} (h : a.data.toList = b.data.toList) : a = b := by
  cases a with | mk x => cases b with | mk y => congr 1; exact Array.toList_inj.1 h
theorem put_eq (s : ByteArray) (pos size n : Int) (h0 : 0 ≤ pos) (h1 : 0 ≤ size) :
    s.extract 0 pos.toNat ++ ⟨(be size.toNat n.toNat).toArray⟩ ++ s.extract (pos + size).toNat s.size = ⟨(put s.data.toList pos.toNat size.toNat n.toNat).toArray⟩ := by
  apply ba_ext
  have e : (pos + size).toNat = pos.toNat + size.toNat := by omega
  rw [ByteArray.data_append, ByteArray.data_append, Array.toList_append, Array.toList_append, ext_list, ext_list, e, put]
  simp only [List.drop_zero]
  congr 1
  rw [List.take_of_length_le (Nat.le_of_eq (len_eq s))]
theorem put_size (s : ByteArray) (p k n : Nat) (h : p + k ≤ s.size) : (ByteArray.mk (put s.data.toList p k n).toArray).size = s.size := by
  rw [mk_size, put_length _ _ _ _ (by simpa using h)]; rfl

theorem drop_snoc (s : ByteArray) (p k : Nat) (h : p + k < s.size) : (s.data.toList.drop p).take (k + 1) = (s.data.toList.drop p).take k ++ [s[p + k]] := by
  rw [List.take_succ_eq_append_getElem (by rw [List.length_drop, len_eq]; omega)]
  simp [List.getElem_drop]
  rfl
theorem num_drop_succ (s : ByteArray) (p k : Nat) (h : p + k < s.size) : num ((s.data.toList.drop p).take (k + 1)) = num ((s.data.toList.drop p).take k) * 256 + s[p + k].toNat := by
  rw [drop_snoc s p k h, num_snoc]
theorem num_drop_lt (s : ByteArray) (p k : Nat) (h : k ≤ 3) : num ((s.data.toList.drop p).take k) < 16777216 := by
  have h1 := num_lt ((s.data.toList.drop p).take k).length _ rfl
  have h2 : ((s.data.toList.drop p).take k).length ≤ 3 := by rw [List.length_take]; omega
  have h3 : 256 ^ ((s.data.toList.drop p).take k).length ≤ 256 ^ 3 := Nat.pow_le_pow_right (by decide) h2
  omega

theorem rstr1 (n : Int) : ByteArray.mk #[UInt8.ofNat n.toNat] ++ ByteArray.mk #[] = ⟨(be 1 n.toNat).toArray⟩ := by
  apply ba_ext; simp [be, ByteArray.data_append]
theorem rstr2 (n : Int) (h : 0 ≤ n) : ByteArray.mk #[UInt8.ofNat (n / 256).toNat] ++ (ByteArray.mk #[UInt8.ofNat (n % 256).toNat] ++ ByteArray.mk #[]) = ⟨(be 2 n.toNat).toArray⟩ := by
  rw [ofNat_congr (n / 256).toNat (n.toNat / 256) (by omega), ofNat_congr (n % 256).toNat n.toNat (by omega)]
  apply ba_ext; simp [be, ByteArray.data_append]
theorem rstr3 (n : Int) (h : 0 ≤ n) : ByteArray.mk #[UInt8.ofNat (n / 256 / 256).toNat] ++ (ByteArray.mk #[UInt8.ofNat (n / 256 % 256).toNat] ++ (ByteArray.mk #[UInt8.ofNat (n % 256).toNat] ++ ByteArray.mk #[])) = ⟨(be 3 n.toNat).toArray⟩ := by
  rw [ofNat_congr (n / 256 / 256).toNat (n.toNat / 256 / 256) (by omega), ofNat_congr (n / 256 % 256).toNat (n.toNat / 256) (by omega), ofNat_congr (n % 256).toNat n.toNat (by omega)]
  apply ba_ext; simp [be, ByteArray.data_append]
theorem rstr4 (n : Int) (h : 0 ≤ n) : ByteArray.mk #[UInt8.ofNat (n / 256 / 256 / 256).toNat] ++ (ByteArray.mk #[UInt8.ofNat (n / 256 / 256 % 256).toNat] ++ (ByteArray.mk #[UInt8.ofNat (n / 256 % 256).toNat] ++ (ByteArray.mk #[UInt8.ofNat (n % 256).toNat] ++ ByteArray.mk #[]))) = ⟨(be 4 n.toNat).toArray⟩ := by
  rw [ofNat_congr (n / 256 / 256 / 256).toNat (n.toNat / 256 / 256 / 256) (by omega), ofNat_congr (n / 256 / 256 % 256).toNat (n.toNat / 256 / 256) (by omega), ofNat_congr (n / 256 % 256).toNat (n.toNat / 256) (by omega), ofNat_congr (n % 256).toNat n.toNat (by omega)]
  apply ba_ext; simp [be, ByteArray.data_append]

theorem num_hi (n : Int) (h0 : 0 ≤ n) (h1 : n < 4294967296) : (num (List.take (2 : Int).toNat (List.drop (0 : Int).toNat (ByteArray.mk (be 4 n.toNat).toArray).data.toList)) : Int) = n / 65536 := by
  simp [be, num]
  omega
theorem num_lo (n : Int) (h0 : 0 ≤ n) : (num (List.take (2 : Int).toNat (List.drop (2 : Int).toNat (ByteArray.mk (be 4 n.toNat).toArray).data.toList)) : Int) = n % 65536 := by
  simp [be, num]
  omega
theorem or_half (n : Int) (h0 : 0 ≤ n) (h1 : n ≤ 4294967295) : bits .or .i64 (n / 65536 * 65536) (n % 65536) = n := by
  rw [bits_join .i64 40 (by decide) wraps_i64 16 (n / 65536 * 65536) (n % 65536) (by omega) (by omega) (by omega) (by omega) (by omega) (by omega)]
  omega

theorem and_1 (n : Int) (h0 : 0 ≤ n) (h1 : n ≤ 4294967295) : bits .and .i64 n 255 = n % 256 := bits_mask .i64 40 (by decide) wraps_i64 8 (by decide) n h0 (by omega)
theorem and_2 (n : Int) (h0 : 0 ≤ n) (h1 : n ≤ 4294967295) : bits .and .i64 n 65535 = n % 65536 := bits_mask .i64 40 (by decide) wraps_i64 16 (by decide) n h0 (by omega)
theorem and_3 (n : Int) (h0 : 0 ≤ n) (h1 : n ≤ 4294967295) : bits .and .i64 n 16777215 = n % 16777216 := bits_mask .i64 40 (by decide) wraps_i64 24 (by decide) n h0 (by omega)
theorem and_4 (n : Int) (h0 : 0 ≤ n) (h1 : n ≤ 4294967295) : bits .and .i64 n 4294967295 = n % 4294967296 := bits_mask .i64 40 (by decide) wraps_i64 32 (by decide) n h0 (by omega)
end Go.Proofs.Ytmeafeomfblncaa.Oct
