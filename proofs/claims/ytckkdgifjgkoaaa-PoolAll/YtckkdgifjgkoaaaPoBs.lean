/- Contracts and mathematics of the layers below (Math, Oct, Ref, Any). -/
import Derived.WalkKit
import Derived.ProofKit
import Derived.Laws.BitsLemmas
import Derived.Laws.BytesArg
import Derived.Deep.QuietTactic
import Derived.BigQuiet
import Derived.Test.YtckkdgifjgkoaaaChecked
import Derived.OpenShut
import Derived.ShutString
import Derived.WalkSpells
import Derived.WalkLawsBesides
import Derived.Handy
import Derived.Below
/- Plain facts about lists of bytes and the number that they are, the greatest byte first: nothing of the program is in here. -/
namespace Go.Proofs.Ytckkdgifjgkoaaa.Oct
open Go.RowKit

theorem ret_int {k : IntKind} {a b : Int} (h : a = b) : Ending.returned (.int k a) = .returned (.int k b) := by rw [h]

/-- The number that bytes are, the greatest first. -/
def num (l : List UInt8) : Nat := l.foldl (fun n b => n * 256 + b.toNat) 0

theorem num_snoc (l : List UInt8) (b : UInt8) : num (l ++ [b]) = num l * 256 + b.toNat := by
  unfold num; rw [List.foldl_append]; rfl

theorem num_nil : num [] = 0 := rfl

theorem snoc_of (l : List UInt8) (h : 0 < l.length) : ∃ l' b, l = l' ++ [b] := by
  have hne : l ≠ [] := by intro e; rw [e] at h; simp at h
  exact ⟨_, _, (List.dropLast_concat_getLast hne).symm⟩

theorem num_lt (n : Nat) : ∀ l : List UInt8, l.length = n → num l < 256 ^ n := by
  induction n with
  | zero => intro l hl; rw [List.length_eq_zero_iff.1 hl]; decide
  | succ n ih =>
    intro l hl
    obtain ⟨l', b, rfl⟩ := snoc_of l (by omega)
    rw [num_snoc]
    have h1 := ih l' (by simpa using hl)
    have h2 := b.toNat_lt
    rw [Nat.pow_succ]
    omega

/-- n in k bytes, the greatest first. -/
def be : Nat → Nat → List UInt8
  | 0, _ => []
  | k + 1, n => be k (n / 256) ++ [UInt8.ofNat n]

theorem be_length : ∀ k n : Nat, (be k n).length = k
  | 0, _ => rfl
  | k + 1, n => by simp [be, be_length k]

theorem num_be : ∀ k n : Nat, n < 256 ^ k → num (be k n) = n
  | 0, n => by intro h; simp at h; simp [be, num, h]
  | k + 1, n => by
    intro h
    rw [Nat.pow_succ] at h
    rw [be, num_snoc, num_be k (n / 256) (by omega)]
    simp only [UInt8.toNat_ofNat']
    omega

theorem num_be_mod (k n : Nat) : num (be k n) = n % 256 ^ k := by
  induction k generalizing n with
  | zero => simp [be, num, Nat.mod_one]
  | succ k ih =>
    rw [be, num_snoc, ih, Nat.pow_succ]
    simp only [UInt8.toNat_ofNat']
    have h := Nat.mod_mul (x := n) (a := 256) (b := 256 ^ k)
    rw [Nat.mul_comm (256 ^ k) 256, h]
    omega

theorem be_num : ∀ (k : Nat) (l : List UInt8), l.length = k → be k (num l) = l
  | 0, l => by intro h; rw [List.length_eq_zero_iff.1 h]; rfl
  | k + 1, l => by
    intro hl
    obtain ⟨l', b, rfl⟩ := snoc_of l (by omega)
    have h2 := b.toNat_lt
    rw [num_snoc, be]
    have hd : (num l' * 256 + b.toNat) / 256 = num l' := by omega
    have hb : UInt8.ofNat (num l' * 256 + b.toNat) = b := by
      apply UInt8.toNat_inj.1
      simp only [UInt8.toNat_ofNat']
      omega
    rw [hd, hb, be_num k l' (by simpa using hl)]

theorem take_snoc (s : ByteArray) (k : Nat) (h : k < s.size) : s.data.toList.take (k + 1) = s.data.toList.take k ++ [s[k]] := by
  rw [List.take_succ_eq_append_getElem (by simpa using h)]; rfl

theorem num_take_succ (s : ByteArray) (k : Nat) (h : k < s.size) : num (s.data.toList.take (k + 1)) = num (s.data.toList.take k) * 256 + s[k].toNat := by
  rw [take_snoc s k h, num_snoc]

theorem num_take_lt (s : ByteArray) (k : Nat) (h : k ≤ 3) : num (s.data.toList.take k) < 16777216 := by
  have h1 := num_lt (s.data.toList.take k).length (s.data.toList.take k) rfl
  have h2 : (s.data.toList.take k).length ≤ 3 := by rw [List.length_take]; omega
  have h3 : 256 ^ (s.data.toList.take k).length ≤ 256 ^ 3 := Nat.pow_le_pow_right (by decide) h2
  omega

theorem wraps_i64 (n : Int) (h₀ : 0 ≤ n) (h₁ : n < 2 ^ 40) : IntKind.i64.wrap n = n := by rw [IntKind.wrap_i64]; omega

theorem or_byte (x y : Int) (h0 : 0 ≤ x) (h1 : x < 16777216) (h2 : 0 ≤ y) (h3 : y < 256) : bits .or .i64 (x * 256) y = x * 256 + y :=
  bits_join .i64 40 (by decide) wraps_i64 8 (x * 256) y (by omega) (by omega) (by omega) h2 (by omega) (by omega)

theorem ret_sb {a b : ByteArray} (h : a = b) : Ending.returned (.tuple #[.string a, .bool true]) = .returned (.tuple #[.string b, .bool true]) := by rw [h]
theorem ret_ib {a b : Int} (h : a = b) : Ending.returned (.tuple #[.int .i64 a, .bool true]) = .returned (.tuple #[.int .i64 b, .bool true]) := by rw [h]

theorem ofNat_congr (a b : Nat) (h : a % 256 = b % 256) : UInt8.ofNat a = UInt8.ofNat b := by
  apply UInt8.toNat_inj.1
  simp only [UInt8.toNat_ofNat']
  omega

theorem str1 (n : Int) : strOfNums [n] = ⟨(be 1 n.toNat).toArray⟩ := by
  simp [strOfNums, be]
theorem str2 (n : Int) (h : 0 ≤ n) : strOfNums [n / 256, n % 256] = ⟨(be 2 n.toNat).toArray⟩ := by
  simp only [strOfNums, be, List.map_cons, List.map_nil, List.nil_append, List.cons_append]
  rw [ofNat_congr (n / 256).toNat (n.toNat / 256) (by omega), ofNat_congr (n % 256).toNat n.toNat (by omega)]
theorem str3 (n : Int) (h : 0 ≤ n) : strOfNums [n / 65536, n / 256 % 256, n % 256] = ⟨(be 3 n.toNat).toArray⟩ := by
  simp only [strOfNums, be, List.map_cons, List.map_nil, List.nil_append, List.cons_append]
  rw [ofNat_congr (n / 65536).toNat (n.toNat / 256 / 256) (by omega), ofNat_congr (n / 256 % 256).toNat (n.toNat / 256) (by omega), ofNat_congr (n % 256).toNat n.toNat (by omega)]
theorem str4 (n : Int) (h : 0 ≤ n) : strOfNums [n / 16777216, n / 65536 % 256, n / 256 % 256, n % 256] = ⟨(be 4 n.toNat).toArray⟩ := by
  simp only [strOfNums, be, List.map_cons, List.map_nil, List.nil_append, List.cons_append]
  rw [ofNat_congr (n / 16777216).toNat (n.toNat / 256 / 256 / 256) (by omega), ofNat_congr (n / 65536 % 256).toNat (n.toNat / 256 / 256) (by omega), ofNat_congr (n / 256 % 256).toNat (n.toNat / 256) (by omega), ofNat_congr (n % 256).toNat n.toNat (by omega)]

theorem grown_trans {a b c : World} (h : Grown a b) (k : Grown b c) : Grown a c :=
  ⟨World.keptBut_trans h.1 k.1, fun x => (k.2.1 x).trans (h.2.1 x), Nat.le_trans h.2.2 k.2.2⟩
theorem grown_drewN {a b : World} (h : Grown a b) (n : Nat) : Grown a (b.drewN n) := by
  induction n generalizing b with
  | zero => exact h
  | succ n ih => exact ih h.drew

/-- The four sizes. -/
theorem sizes {size : Int} (h1 : 1 ≤ size) (h2 : size ≤ 4) : size = 1 ∨ size = 2 ∨ size = 3 ∨ size = 4 := by omega

/-- The bytes l with the k bytes of n from p on instead of what stood there. -/
def put (l : List UInt8) (p k n : Nat) : List UInt8 := l.take p ++ be k n ++ l.drop (p + k)
theorem put_length (l : List UInt8) (p k n : Nat) (h : p + k ≤ l.length) : (put l p k n).length = l.length := by
  simp [put, be_length]; omega

theorem ext_size (s : ByteArray) (a b : Nat) (h : b ≤ s.size) : (s.extract a b).size = b - a := by
  rw [ByteArray.size_extract]; omega
theorem ext_list (s : ByteArray) (a b : Nat) : (s.extract a b).data.toList = (s.data.toList.take b).drop a := by
  simp [ByteArray.data_extract, List.extract_eq_take_drop, List.drop_take]
theorem ext_mid (s : ByteArray) (pos size : Int) (h0 : 0 ≤ pos) (h1 : 0 ≤ size) :
    (s.extract pos.toNat (pos + size).toNat).data.toList = (s.data.toList.drop pos.toNat).take size.toNat := by
  rw [ext_list, List.drop_take]
  congr 1
  omega

theorem len_eq (s : ByteArray) : s.data.toList.length = s.size := by rw [Array.length_toList]; rfl
theorem mk_size (l : List UInt8) : (ByteArray.mk l.toArray).size = l.length := by
  exact List.size_toArray
theorem ba_ext {a b : ByteArray} (h : a.data.toList = b.data.toList) : a = b := by
  cases a with | mk x => cases b with | mk y => congr 1; exact Array.toList_inj.1 h
theorem put_eq (s : ByteArray) (pos size n : Int) (h0 : 0 ≤ pos) (h1 : 0 ≤ size) :
    s.extract 0 pos.toNat ++ ⟨(be size.toNat n.toNat).toArray⟩ ++ s.extract (pos + size).toNat s.size = ⟨(put s.data.toList pos.toNat size.toNat n.toNat).toArray⟩ := by
  apply ba_ext
  have e : (pos + size).toNat = pos.toNat + size.toNat := by omega
  rw [ByteArray.data_append, ByteArray.data_append, Array.toList_append, Array.toList_append, ext_list, ext_list, e, put]
  simp only [List.drop_zero]
  congr 1
  rw [List.take_of_length_le (Nat.le_of_eq (len_eq s))]
theorem put_size (s : ByteArray) (p k n : Nat) (h : p + k ≤ s.size) : (ByteArray.mk (put s.data.toList p k n).toArray).size = s.size := by
  rw [mk_size, put_length _ _ _ _ (by simpa using h)]; rfl

theorem drop_snoc (s : ByteArray) (p k : Nat) (h : p + k < s.size) : (s.data.toList.drop p).take (k + 1) = (s.data.toList.drop p).take k ++ [s[p + k]] := by
  rw [List.take_succ_eq_append_getElem (by rw [List.length_drop, len_eq]; omega)]
  simp [List.getElem_drop]
  rfl
theorem num_drop_succ (s : ByteArray) (p k : Nat) (h : p + k < s.size) : num ((s.data.toList.drop p).take (k + 1)) = num ((s.data.toList.drop p).take k) * 256 + s[p + k].toNat := by
  rw [drop_snoc s p k h, num_snoc]
theorem num_drop_lt (s : ByteArray) (p k : Nat) (h : k ≤ 3) : num ((s.data.toList.drop p).take k) < 16777216 := by
  have h1 := num_lt ((s.data.toList.drop p).take k).length _ rfl
  have h2 : ((s.data.toList.drop p).take k).length ≤ 3 := by rw [List.length_take]; omega
  have h3 : 256 ^ ((s.data.toList.drop p).take k).length ≤ 256 ^ 3 := Nat.pow_le_pow_right (by decide) h2
  omega

theorem rstr1 (n : Int) : ByteArray.mk #[UInt8.ofNat n.toNat] ++ ByteArray.mk #[] = ⟨(be 1 n.toNat).toArray⟩ := by
  apply ba_ext; simp [be, ByteArray.data_append]
theorem rstr2 (n : Int) (h : 0 ≤ n) : ByteArray.mk #[UInt8.ofNat (n / 256).toNat] ++ (ByteArray.mk #[UInt8.ofNat (n % 256).toNat] ++ ByteArray.mk #[]) = ⟨(be 2 n.toNat).toArray⟩ := by
  rw [ofNat_congr (n / 256).toNat (n.toNat / 256) (by omega), ofNat_congr (n % 256).toNat n.toNat (by omega)]
  apply ba_ext; simp [be, ByteArray.data_append]
theorem rstr3 (n : Int) (h : 0 ≤ n) : ByteArray.mk #[UInt8.ofNat (n / 256 / 256).toNat] ++ (ByteArray.mk #[UInt8.ofNat (n / 256 % 256).toNat] ++ (ByteArray.mk #[UInt8.ofNat (n % 256).toNat] ++ ByteArray.mk #[])) = ⟨(be 3 n.toNat).toArray⟩ := by
  rw [ofNat_congr (n / 256 / 256).toNat (n.toNat / 256 / 256) (by omega), ofNat_congr (n / 256 % 256).toNat (n.toNat / 256) (by omega), ofNat_congr (n % 256).toNat n.toNat (by omega)]
  apply ba_ext; simp [be, ByteArray.data_append]
theorem rstr4 (n : Int) (h : 0 ≤ n) : ByteArray.mk #[UInt8.ofNat (n / 256 / 256 / 256).toNat] ++ (ByteArray.mk #[UInt8.ofNat (n / 256 / 256 % 256).toNat] ++ (ByteArray.mk #[UInt8.ofNat (n / 256 % 256).toNat] ++ (ByteArray.mk #[UInt8.ofNat (n % 256).toNat] ++ ByteArray.mk #[]))) = ⟨(be 4 n.toNat).toArray⟩ := by
  rw [ofNat_congr (n / 256 / 256 / 256).toNat (n.toNat / 256 / 256 / 256) (by omega), ofNat_congr (n / 256 / 256 % 256).toNat (n.toNat / 256 / 256) (by omega), ofNat_congr (n / 256 % 256).toNat (n.toNat / 256) (by omega), ofNat_congr (n % 256).toNat n.toNat (by omega)]
  apply ba_ext; simp [be, ByteArray.data_append]

theorem num_hi (n : Int) (h0 : 0 ≤ n) (h1 : n < 4294967296) : (num (List.take (2 : Int).toNat (List.drop (0 : Int).toNat (ByteArray.mk (be 4 n.toNat).toArray).data.toList)) : Int) = n / 65536 := by
  simp [be, num]
  omega
theorem num_lo (n : Int) (h0 : 0 ≤ n) : (num (List.take (2 : Int).toNat (List.drop (2 : Int).toNat (ByteArray.mk (be 4 n.toNat).toArray).data.toList)) : Int) = n % 65536 := by
  simp [be, num]
  omega
theorem or_half (n : Int) (h0 : 0 ≤ n) (h1 : n ≤ 4294967295) : bits .or .i64 (n / 65536 * 65536) (n % 65536) = n := by
  rw [bits_join .i64 40 (by decide) wraps_i64 16 (n / 65536 * 65536) (n % 65536) (by omega) (by omega) (by omega) (by omega) (by omega) (by omega)]
  omega

theorem and_1 (n : Int) (h0 : 0 ≤ n) (h1 : n ≤ 4294967295) : bits .and .i64 n 255 = n % 256 := bits_mask .i64 40 (by decide) wraps_i64 8 (by decide) n h0 (by omega)
theorem and_2 (n : Int) (h0 : 0 ≤ n) (h1 : n ≤ 4294967295) : bits .and .i64 n 65535 = n % 65536 := bits_mask .i64 40 (by decide) wraps_i64 16 (by decide) n h0 (by omega)
theorem and_3 (n : Int) (h0 : 0 ≤ n) (h1 : n ≤ 4294967295) : bits .and .i64 n 16777215 = n % 16777216 := bits_mask .i64 40 (by decide) wraps_i64 24 (by decide) n h0 (by omega)
theorem and_4 (n : Int) (h0 : 0 ≤ n) (h1 : n ≤ 4294967295) : bits .and .i64 n 4294967295 = n % 4294967296 := bits_mask .i64 40 (by decide) wraps_i64 32 (by decide) n h0 (by omega)
end Go.Proofs.Ytckkdgifjgkoaaa.Oct

/- What the functions of package octet compute, one contract a function: no condition but the readings' own bounds. -/
namespace Go.Proofs.Ytckkdgifjgkoaaa
open Go.ChangeShapes Go.WideShapes Go.ChangeAt Go.RowKit

def szB (size : Int) : Bool := decide (1 ≤ size ∧ size ≤ 4)

set_option maxHeartbeats 400000 in
theorem sizeRight_yes (size : Int) (w : World) (h1 : 1 ≤ size) (h2 : size ≤ 4) :
    Calls Try.prog 88 #[.int .i64 size] w fun e w' => e = .returned (.bool true) ∧ w' = w := by
  go_enter Try.func88, Try.ntmps88
  go_wp2
  go_ret
  exact ⟨rfl, rfl⟩

set_option maxHeartbeats 400000 in
theorem sizeRight_no (size : Int) (w : World) (h : ¬ (1 ≤ size ∧ size ≤ 4)) :
    Calls Try.prog 88 #[.int .i64 size] w fun e w' => e = .returned (.bool false) ∧ w' = w := by
  by_cases h1 : 1 ≤ size
  · have h2 : ¬ size ≤ 4 := by omega
    clear h
    go_enter Try.func88, Try.ntmps88
    go_wp2
    go_ret
    exact ⟨rfl, rfl⟩
  · clear h
    go_enter Try.func88, Try.ntmps88
    go_wp2
    go_ret
    exact ⟨rfl, rfl⟩

theorem conv_room (W : World) (a b c d : Int) (k : Nat) (hk : k ≤ 4) :
    (convert 60 9 (.slice (some ⟨W.heap.size, 0, none⟩) k 4)).run Try.prog (W.alloc (.cells #[.int .u8 a, .int .u8 b, .int .u8 c, .int .u8 d] 146))
      = .ok (.string (strOfNums ([a, b, c, d].take k))) (W.alloc (.cells #[.int .u8 a, .int .u8 b, .int .u8 c, .int .u8 d] 146)) := by
  refine run_convert_bytes_arg _ 60 5 Try.underlying60 Try.underlying5 _ 0 k 4 _ (by simp; omega) ?_ 9 Try.underlying9
  intro i hi
  have h4 : i = 0 ∨ i = 1 ∨ i = 2 ∨ i = 3 := by omega
  rcases h4 with rfl | rfl | rfl | rfl <;> simp [go_sem, List.getD, hi]

set_option maxHeartbeats 400000 in
theorem bput1 (n : Int) (w : World) (h0 : 0 ≤ n) (h1 : n < 256) :
    Calls Try.prog 71 #[.int .i64 1, .int .i64 n] w fun e w' => e = .returned (.tuple #[.string ⟨(Oct.be 1 n.toNat).toArray⟩, .bool true]) ∧ Below w.heap.size w w' := by
  have hz : (n / 256 != 0) = false := by simp; omega
  have hcv := fun W a b c d => conv_room W a b c d 1 (by omega)
  go_enter Try.func71, Try.ntmps71
  go_wp2_with (go_at_call 88; refine (sizeRight_yes _ _ (by omega) (by omega)).mono ?_; rintro e w' ⟨rfl, rfl⟩)
  go_rounds 2
  go_ret2
  refine ⟨Oct.ret_sb (Oct.str1 n), ?_⟩
  (repeat first | exact Below.refl _ _ | refine Below.drew ?_ | refine Below.alloc ?_ (by simp) _ | refine Below.setCell ?_ (by simp) _)

set_option maxHeartbeats 400000 in
theorem bput1_no (n : Int) (w : World) (h0 : 0 ≤ n) (h1 : 256 ≤ n) :
    Calls Try.prog 71 #[.int .i64 1, .int .i64 n] w fun e w' => e = .returned (.tuple #[.string ⟨#[]⟩, .bool false]) ∧ w' = w := by
  have hz : (n / 256 != 0) = true := by simp; omega
  go_enter Try.func71, Try.ntmps71
  go_wp2_with (go_at_call 88; refine (sizeRight_yes _ _ (by omega) (by omega)).mono ?_; rintro e w' ⟨rfl, rfl⟩)
  go_ret2
  exact ⟨rfl, rfl⟩

set_option maxHeartbeats 400000 in
theorem bput2 (n : Int) (w : World) (h0 : 0 ≤ n) (h1 : n < 65536) :
    Calls Try.prog 71 #[.int .i64 2, .int .i64 n] w fun e w' => e = .returned (.tuple #[.string ⟨(Oct.be 2 n.toNat).toArray⟩, .bool true]) ∧ Below w.heap.size w w' := by
  have hz : (n / 65536 != 0) = false := by simp; omega
  have hcv := fun W a b c d => conv_room W a b c d 2 (by omega)
  go_enter Try.func71, Try.ntmps71
  go_wp2_with (go_at_call 88; refine (sizeRight_yes _ _ (by omega) (by omega)).mono ?_; rintro e w' ⟨rfl, rfl⟩)
  go_rounds 3
  go_ret2
  refine ⟨Oct.ret_sb (Oct.str2 n h0), ?_⟩
  (repeat first | exact Below.refl _ _ | refine Below.drew ?_ | refine Below.alloc ?_ (by simp) _ | refine Below.setCell ?_ (by simp) _)

set_option maxHeartbeats 400000 in
theorem bput2_no (n : Int) (w : World) (h0 : 0 ≤ n) (h1 : 65536 ≤ n) :
    Calls Try.prog 71 #[.int .i64 2, .int .i64 n] w fun e w' => e = .returned (.tuple #[.string ⟨#[]⟩, .bool false]) ∧ w' = w := by
  have hz : (n / 65536 != 0) = true := by simp; omega
  go_enter Try.func71, Try.ntmps71
  go_wp2_with (go_at_call 88; refine (sizeRight_yes _ _ (by omega) (by omega)).mono ?_; rintro e w' ⟨rfl, rfl⟩)
  go_ret2
  exact ⟨rfl, rfl⟩

set_option maxHeartbeats 400000 in
theorem bput3 (n : Int) (w : World) (h0 : 0 ≤ n) (h1 : n < 16777216) :
    Calls Try.prog 71 #[.int .i64 3, .int .i64 n] w fun e w' => e = .returned (.tuple #[.string ⟨(Oct.be 3 n.toNat).toArray⟩, .bool true]) ∧ Below w.heap.size w w' := by
  have hz : (n / 16777216 != 0) = false := by simp; omega
  have hcv := fun W a b c d => conv_room W a b c d 3 (by omega)
  go_enter Try.func71, Try.ntmps71
  go_wp2_with (go_at_call 88; refine (sizeRight_yes _ _ (by omega) (by omega)).mono ?_; rintro e w' ⟨rfl, rfl⟩)
  go_rounds 4
  go_ret2
  refine ⟨Oct.ret_sb (Oct.str3 n h0), ?_⟩
  (repeat first | exact Below.refl _ _ | refine Below.drew ?_ | refine Below.alloc ?_ (by simp) _ | refine Below.setCell ?_ (by simp) _)

set_option maxHeartbeats 400000 in
theorem bput3_no (n : Int) (w : World) (h0 : 0 ≤ n) (h1 : 16777216 ≤ n) :
    Calls Try.prog 71 #[.int .i64 3, .int .i64 n] w fun e w' => e = .returned (.tuple #[.string ⟨#[]⟩, .bool false]) ∧ w' = w := by
  have hz : (n / 16777216 != 0) = true := by simp; omega
  go_enter Try.func71, Try.ntmps71
  go_wp2_with (go_at_call 88; refine (sizeRight_yes _ _ (by omega) (by omega)).mono ?_; rintro e w' ⟨rfl, rfl⟩)
  go_ret2
  exact ⟨rfl, rfl⟩

set_option maxHeartbeats 400000 in
theorem bput4 (n : Int) (w : World) (h0 : 0 ≤ n) (h1 : n < 4294967296) :
    Calls Try.prog 71 #[.int .i64 4, .int .i64 n] w fun e w' => e = .returned (.tuple #[.string ⟨(Oct.be 4 n.toNat).toArray⟩, .bool true]) ∧ Below w.heap.size w w' := by
  have hz : (n / 4294967296 != 0) = false := by simp; omega
  have hcv := fun W a b c d => conv_room W a b c d 4 (by omega)
  go_enter Try.func71, Try.ntmps71
  go_wp2_with (go_at_call 88; refine (sizeRight_yes _ _ (by omega) (by omega)).mono ?_; rintro e w' ⟨rfl, rfl⟩)
  go_rounds 5
  go_ret2
  refine ⟨Oct.ret_sb (Oct.str4 n h0), ?_⟩
  (repeat first | exact Below.refl _ _ | refine Below.drew ?_ | refine Below.alloc ?_ (by simp) _ | refine Below.setCell ?_ (by simp) _)

set_option maxHeartbeats 400000 in
theorem bput4_no (n : Int) (w : World) (h0 : 0 ≤ n) (h1 : 4294967296 ≤ n) :
    Calls Try.prog 71 #[.int .i64 4, .int .i64 n] w fun e w' => e = .returned (.tuple #[.string ⟨#[]⟩, .bool false]) ∧ w' = w := by
  have hz : (n / 4294967296 != 0) = true := by simp; omega
  go_enter Try.func71, Try.ntmps71
  go_wp2_with (go_at_call 88; refine (sizeRight_yes _ _ (by omega) (by omega)).mono ?_; rintro e w' ⟨rfl, rfl⟩)
  go_ret2
  exact ⟨rfl, rfl⟩


theorem bput_yes (size n : Int) (w : World) (h1 : 1 ≤ size) (h2 : size ≤ 4) (h3 : 0 ≤ n) (h4 : n.toNat < 256 ^ size.toNat) :
    Calls Try.prog 71 #[.int .i64 size, .int .i64 n] w fun e w' => e = .returned (.tuple #[.string ⟨(Oct.be size.toNat n.toNat).toArray⟩, .bool true]) ∧ Below w.heap.size w w' := by
  rcases Oct.sizes h1 h2 with rfl | rfl | rfl | rfl
  · exact bput1 n w h3 (by simp at h4; omega)
  · exact bput2 n w h3 (by simp at h4; omega)
  · exact bput3 n w h3 (by simp at h4; omega)
  · exact bput4 n w h3 (by simp at h4; omega)

set_option maxHeartbeats 400000 in
theorem bput_no (size n : Int) (w : World) (h : ¬ ((1 ≤ size ∧ size ≤ 4) ∧ 0 ≤ n ∧ n.toNat < 256 ^ size.toNat)) :
    Calls Try.prog 71 #[.int .i64 size, .int .i64 n] w fun e w' => e = .returned (.tuple #[.string ⟨#[]⟩, .bool false]) ∧ w' = w := by
  by_cases hs : 1 ≤ size ∧ size ≤ 4
  · by_cases h0 : 0 ≤ n
    · obtain ⟨h1, h2⟩ := hs
      rcases Oct.sizes h1 h2 with rfl | rfl | rfl | rfl
      · exact bput1_no n w h0 (by simp [h0] at h; omega)
      · exact bput2_no n w h0 (by simp [h0] at h; omega)
      · exact bput3_no n w h0 (by simp [h0] at h; omega)
      · exact bput4_no n w h0 (by simp [h0] at h; omega)
    · clear h
      obtain ⟨ha, hb⟩ := hs
      have hn : n < 0 := by omega
      clear h0
      go_enter Try.func71, Try.ntmps71
      go_wp2_with (go_at_call 88; refine (sizeRight_yes _ _ ha hb).mono ?_; rintro e w' ⟨rfl, rfl⟩)
      go_ret2
      exact ⟨rfl, rfl⟩
  · clear h
    have HS : Hid (¬ (1 ≤ size ∧ size ≤ 4)) := hs
    clear hs
    go_enter Try.func71, Try.ntmps71
    go_wp2_with (go_at_call 88; refine (sizeRight_no _ _ HS.out).mono ?_; rintro e w' ⟨rfl, rfl⟩)
    go_ret2
    exact ⟨rfl, rfl⟩

end Go.Proofs.Ytckkdgifjgkoaaa

/- What the reference functions of chapter 1 compute, one contract a function. -/
namespace Go.Proofs.Ytckkdgifjgkoaaa
open Go.ChangeShapes Go.WideShapes Go.ChangeAt Go.RowKit

theorem bconv_one (W : World) (a : Int) (b : Nat) (hb : W.heap.size = b) :
    (convert 60 9 (.slice (some ⟨b, 0, none⟩) 1 1)).run Try.prog (W.alloc (.cells #[.int .u8 a] 5))
      = .ok (.string ⟨#[UInt8.ofNat a.toNat]⟩) (W.alloc (.cells #[.int .u8 a] 5)) := by
  subst hb
  refine run_convert_bytes_arg _ 60 5 Try.underlying60 Try.underlying5 _ 0 1 1 [a] rfl ?_ 9 Try.underlying9
  intro i hi
  have h4 : i = 0 := by omega
  subst h4
  simp [go_sem, List.getD]

set_option maxHeartbeats 400000 in
theorem brput1 (n : Int) (w : World) (h0 : 0 ≤ n) (h1 : n < 256) :
    Calls Try.prog 61 #[.int .i64 1, .int .i64 n] w fun e w' => e = .returned (.tuple #[.string ⟨(Oct.be 1 n.toNat).toArray⟩, .bool true]) ∧ Below w.heap.size w w' := by
  have d1 : decide (n < 0) = false := by simp; omega
  have d2 : decide (256 ≤ n) = false := by simp; omega
  have hcv := bconv_one
  go_enter Try.func61, Try.ntmps61
  go_wp2_with fail
  go_rounds 2
  go_ret2
  refine ⟨Oct.ret_sb (Oct.rstr1 n), ?_⟩
  (repeat first | exact Below.refl _ _ | refine Below.drew ?_ | refine Below.alloc ?_ (by simp <;> omega) _ | refine Below.setCell ?_ (by simp <;> omega) _)

set_option maxHeartbeats 400000 in
theorem brput1_no (n : Int) (w : World) (h0 : 0 ≤ n) (h1 : 256 ≤ n) :
    Calls Try.prog 61 #[.int .i64 1, .int .i64 n] w fun e w' => e = .returned (.tuple #[.string ⟨#[]⟩, .bool false]) ∧ w' = w := by
  go_enter Try.func61, Try.ntmps61
  go_wp2_with fail
  go_ret2
  exact ⟨rfl, rfl⟩

set_option maxHeartbeats 400000 in
theorem brput2 (n : Int) (w : World) (h0 : 0 ≤ n) (h1 : n < 65536) :
    Calls Try.prog 61 #[.int .i64 2, .int .i64 n] w fun e w' => e = .returned (.tuple #[.string ⟨(Oct.be 2 n.toNat).toArray⟩, .bool true]) ∧ Below w.heap.size w w' := by
  have d1 : decide (n < 0) = false := by simp; omega
  have d2 : decide (65536 ≤ n) = false := by simp; omega
  have hcv := bconv_one
  go_enter Try.func61, Try.ntmps61
  go_wp2_with fail
  go_rounds 3
  go_ret2
  refine ⟨Oct.ret_sb (Oct.rstr2 n h0), ?_⟩
  (repeat first | exact Below.refl _ _ | refine Below.drew ?_ | refine Below.alloc ?_ (by simp <;> omega) _ | refine Below.setCell ?_ (by simp <;> omega) _)

set_option maxHeartbeats 400000 in
theorem brput2_no (n : Int) (w : World) (h0 : 0 ≤ n) (h1 : 65536 ≤ n) :
    Calls Try.prog 61 #[.int .i64 2, .int .i64 n] w fun e w' => e = .returned (.tuple #[.string ⟨#[]⟩, .bool false]) ∧ w' = w := by
  go_enter Try.func61, Try.ntmps61
  go_wp2_with fail
  go_ret2
  exact ⟨rfl, rfl⟩

set_option maxHeartbeats 400000 in
theorem brput3 (n : Int) (w : World) (h0 : 0 ≤ n) (h1 : n < 16777216) :
    Calls Try.prog 61 #[.int .i64 3, .int .i64 n] w fun e w' => e = .returned (.tuple #[.string ⟨(Oct.be 3 n.toNat).toArray⟩, .bool true]) ∧ Below w.heap.size w w' := by
  have d1 : decide (n < 0) = false := by simp; omega
  have d2 : decide (16777216 ≤ n) = false := by simp; omega
  have hcv := bconv_one
  go_enter Try.func61, Try.ntmps61
  go_wp2_with fail
  go_rounds 4
  go_ret2
  refine ⟨Oct.ret_sb (Oct.rstr3 n h0), ?_⟩
  (repeat first | exact Below.refl _ _ | refine Below.drew ?_ | refine Below.alloc ?_ (by simp <;> omega) _ | refine Below.setCell ?_ (by simp <;> omega) _)

set_option maxHeartbeats 400000 in
theorem brput3_no (n : Int) (w : World) (h0 : 0 ≤ n) (h1 : 16777216 ≤ n) :
    Calls Try.prog 61 #[.int .i64 3, .int .i64 n] w fun e w' => e = .returned (.tuple #[.string ⟨#[]⟩, .bool false]) ∧ w' = w := by
  go_enter Try.func61, Try.ntmps61
  go_wp2_with fail
  go_ret2
  exact ⟨rfl, rfl⟩

set_option maxHeartbeats 400000 in
theorem brput4 (n : Int) (w : World) (h0 : 0 ≤ n) (h1 : n < 4294967296) :
    Calls Try.prog 61 #[.int .i64 4, .int .i64 n] w fun e w' => e = .returned (.tuple #[.string ⟨(Oct.be 4 n.toNat).toArray⟩, .bool true]) ∧ Below w.heap.size w w' := by
  have d1 : decide (n < 0) = false := by simp; omega
  have d2 : decide (4294967296 ≤ n) = false := by simp; omega
  have hcv := bconv_one
  go_enter Try.func61, Try.ntmps61
  go_wp2_with fail
  go_rounds 5
  go_ret2
  refine ⟨Oct.ret_sb (Oct.rstr4 n h0), ?_⟩
  (repeat first | exact Below.refl _ _ | refine Below.drew ?_ | refine Below.alloc ?_ (by simp <;> omega) _ | refine Below.setCell ?_ (by simp <;> omega) _)

set_option maxHeartbeats 400000 in
theorem brput4_no (n : Int) (w : World) (h0 : 0 ≤ n) (h1 : 4294967296 ≤ n) :
    Calls Try.prog 61 #[.int .i64 4, .int .i64 n] w fun e w' => e = .returned (.tuple #[.string ⟨#[]⟩, .bool false]) ∧ w' = w := by
  go_enter Try.func61, Try.ntmps61
  go_wp2_with fail
  go_ret2
  exact ⟨rfl, rfl⟩

theorem brput_yes (size n : Int) (w : World) (h1 : 1 ≤ size) (h2 : size ≤ 4) (h3 : 0 ≤ n) (h4 : n.toNat < 256 ^ size.toNat) :
    Calls Try.prog 61 #[.int .i64 size, .int .i64 n] w fun e w' => e = .returned (.tuple #[.string ⟨(Oct.be size.toNat n.toNat).toArray⟩, .bool true]) ∧ Below w.heap.size w w' := by
  rcases Oct.sizes h1 h2 with rfl | rfl | rfl | rfl
  · exact brput1 n w h3 (by simp at h4; omega)
  · exact brput2 n w h3 (by simp at h4; omega)
  · exact brput3 n w h3 (by simp at h4; omega)
  · exact brput4 n w h3 (by simp at h4; omega)

set_option maxHeartbeats 400000 in
theorem brput_no (size n : Int) (w : World) (h : ¬ ((1 ≤ size ∧ size ≤ 4) ∧ 0 ≤ n ∧ n.toNat < 256 ^ size.toNat)) :
    Calls Try.prog 61 #[.int .i64 size, .int .i64 n] w fun e w' => e = .returned (.tuple #[.string ⟨#[]⟩, .bool false]) ∧ w' = w := by
  by_cases hs1 : size < 1
  · clear h
    go_enter Try.func61, Try.ntmps61
    go_wp2_with fail
    go_ret2
    exact ⟨rfl, rfl⟩
  · by_cases hs2 : 4 < size
    · clear h
      go_enter Try.func61, Try.ntmps61
      go_wp2_with fail
      go_ret2
      exact ⟨rfl, rfl⟩
    · by_cases h0 : 0 ≤ n
      · rcases Oct.sizes (show 1 ≤ size by omega) (show size ≤ 4 by omega) with rfl | rfl | rfl | rfl
        · exact brput1_no n w h0 (by simp [h0] at h; omega)
        · exact brput2_no n w h0 (by simp [h0] at h; omega)
        · exact brput3_no n w h0 (by simp [h0] at h; omega)
        · exact brput4_no n w h0 (by simp [h0] at h; omega)
      · have hn : n < 0 := by omega
        clear h h0
        go_enter Try.func61, Try.ntmps61
        go_wp2_with fail
        go_ret2
        exact ⟨rfl, rfl⟩
end Go.Proofs.Ytckkdgifjgkoaaa

/- What Get, Put and Set answer, and what the reference answers, by one plain function each. -/
namespace Go.Proofs.Ytckkdgifjgkoaaa
open Go.ChangeShapes Go.WideShapes Go.ChangeAt Go.RowKit

def Fits (s : ByteArray) (pos size : Int) : Prop := (1 ≤ size ∧ size ≤ 4) ∧ 0 ≤ pos ∧ pos ≤ s.size - size
def Room (size n : Int) : Prop := (1 ≤ size ∧ size ≤ 4) ∧ 0 ≤ n ∧ n.toNat < 256 ^ size.toNat
def gotB (s : ByteArray) (pos size : Int) : Bool := decide ((1 ≤ size ∧ size ≤ 4) ∧ 0 ≤ pos ∧ pos ≤ s.size - size)
def got (s : ByteArray) (pos size : Int) : Int := if gotB s pos size = true then Oct.num ((s.data.toList.drop pos.toNat).take size.toNat) else 0
def laidB (size n : Int) : Bool := decide ((1 ≤ size ∧ size ≤ 4) ∧ 0 ≤ n ∧ n.toNat < 256 ^ size.toNat)
def laid (size n : Int) : ByteArray := if laidB size n = true then ⟨(Oct.be size.toNat n.toNat).toArray⟩ else ⟨#[]⟩
def setB (s : ByteArray) (pos size n : Int) : Bool := gotB s pos size && laidB size n
def set (s : ByteArray) (pos size n : Int) : ByteArray := if setB s pos size n = true then ⟨(Oct.put s.data.toList pos.toNat size.toNat n.toNat).toArray⟩ else ⟨#[]⟩

theorem gotB_iff (s : ByteArray) (pos size : Int) : gotB s pos size = true ↔ Fits s pos size := by unfold gotB Fits; exact decide_eq_true_iff
theorem laidB_iff (size n : Int) : laidB size n = true ↔ Room size n := by unfold laidB Room; exact decide_eq_true_iff

theorem bput_any (size n : Int) (w : World) :
    Calls Try.prog 71 #[.int .i64 size, .int .i64 n] w fun e w' => e = .returned (.tuple #[.string (laid size n), .bool (laidB size n)]) ∧ Below w.heap.size w w' := by
  cases hb : laidB size n with
  | true =>
    obtain ⟨⟨h1, h2⟩, h3, h4⟩ := (laidB_iff size n).1 hb
    rw [laid, if_pos hb]
    exact bput_yes size n w h1 h2 h3 h4
  | false =>
    rw [laid, if_neg (by rw [hb]; decide)]
    refine (bput_no size n w (fun h => by rw [(laidB_iff size n).2 h] at hb; cases hb)).mono ?_
    rintro e w' ⟨rfl, rfl⟩
    exact ⟨rfl, Below.refl _ _⟩

theorem brput_any (size n : Int) (w : World) :
    Calls Try.prog 61 #[.int .i64 size, .int .i64 n] w fun e w' => e = .returned (.tuple #[.string (laid size n), .bool (laidB size n)]) ∧ Below w.heap.size w w' := by
  cases hb : laidB size n with
  | true =>
    obtain ⟨⟨h1, h2⟩, h3, h4⟩ := (laidB_iff size n).1 hb
    rw [laid, if_pos hb]
    exact brput_yes size n w h1 h2 h3 h4
  | false =>
    rw [laid, if_neg (by rw [hb]; decide)]
    refine (brput_no size n w (fun h => by rw [(laidB_iff size n).2 h] at hb; cases hb)).mono ?_
    rintro e w' ⟨rfl, rfl⟩
    exact ⟨rfl, Below.refl _ _⟩

end Go.Proofs.Ytckkdgifjgkoaaa
