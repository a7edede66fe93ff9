/- What the functions of package octet compute, one contract a function: no condition but the readings' own bounds. -/
import Derived.Test.YtmeafeomfblncaaChecked
import Derived.Test.YtmeafeomfblncaaMath
import Derived.WalkKit
import Derived.ProofKit
import Derived.OpenShut
import Derived.ShutString
import Derived.WalkSpells
import Derived.WalkLawsBesides
import Derived.Handy
import Derived.Below
namespace Go.Proofs.Ytmeafeomfblncaa
open Go.ChangeShapes Go.WideShapes Go.ChangeAt Go.RowKit

def szB (size : Int) : Bool := decide (1 ≤ size ∧ size ≤ 4)

set_option maxHeartbeats 400000 in
theorem sizeRight_yes (size : Int) (w : World) (h1 : 1 ≤ size) (h2 : size ≤ 4) :
    Calls Try.prog 45 #[.int .i64 size] w fun e w' => e = .returned (.bool true) ∧ w' = w := by
  go_enter Try.func45, Try.ntmps45
  go_wp2
  go_ret
  exact ⟨rfl, rfl⟩

set_option maxHeartbeats 400000 in
theorem sizeRight_no (size : Int) (w : World) (h : ¬ (1 ≤ size ∧ size ≤ 4)) :
    Calls Try.prog 45 #[.int .i64 size] w fun e w' => e = .returned (.bool false) ∧ w' = w := by
  by_cases h1 : 1 ≤ size
  · have h2 : ¬ size ≤ 4 := by omega
    clear h
    go_enter Try.func45, Try.ntmps45
    go_wp2
    go_ret
    exact ⟨rfl, rfl⟩
  · clear h
    go_enter Try.func45, Try.ntmps45
    go_wp2
    go_ret
    exact ⟨rfl, rfl⟩

set_option maxHeartbeats 400000 in
theorem within_yes (s : ByteArray) (pos size : Int) (w : World) (hs : s.size ≤ maxLen) (h1 : 1 ≤ size) (h2 : size ≤ 4) (h3 : 0 ≤ pos) (h4 : pos ≤ s.size - size) :
    Calls Try.prog 33 #[.string s, .int .i64 pos, .int .i64 size] w fun e w' => e = .returned (.bool true) ∧ w' = w := by
  unfold maxLen at hs
  go_enter Try.func33, Try.ntmps33
  go_wp2_with (go_at_call 45; refine (sizeRight_yes _ _ h1 h2).mono ?_; rintro e w' ⟨rfl, rfl⟩)
  go_ret
  exact ⟨rfl, rfl⟩

set_option maxHeartbeats 400000 in
theorem within_no (s : ByteArray) (pos size : Int) (w : World) (hs : s.size ≤ maxLen) (h : ¬ ((1 ≤ size ∧ size ≤ 4) ∧ 0 ≤ pos ∧ pos ≤ s.size - size)) :
    Calls Try.prog 33 #[.string s, .int .i64 pos, .int .i64 size] w fun e w' => e = .returned (.bool false) ∧ w' = w := by
  unfold maxLen at hs
  by_cases h1 : 1 ≤ size ∧ size ≤ 4
  · by_cases h3 : 0 ≤ pos
    · have h4 : decide (pos ≤ s.size - size) = false := by simp; omega
      obtain ⟨ha, hb⟩ := h1
      clear h
      go_enter Try.func33, Try.ntmps33
      go_wp2_with (go_at_call 45; refine (sizeRight_yes _ _ ha hb).mono ?_; rintro e w' ⟨rfl, rfl⟩)
      go_ret
      exact ⟨rfl, rfl⟩
    · obtain ⟨ha, hb⟩ := h1
      clear h
      go_enter Try.func33, Try.ntmps33
      go_wp2_with (go_at_call 45; refine (sizeRight_yes _ _ ha hb).mono ?_; rintro e w' ⟨rfl, rfl⟩)
      go_ret
      exact ⟨rfl, rfl⟩
  · clear h
    have H1 : Hid (¬ (1 ≤ size ∧ size ≤ 4)) := h1
    clear h1
    go_enter Try.func33, Try.ntmps33
    go_wp2_with (go_at_call 45; refine (sizeRight_no _ _ H1.out).mono ?_; rintro e w' ⟨rfl, rfl⟩)
    go_ret
    exact ⟨rfl, rfl⟩

set_option maxHeartbeats 400000 in
theorem number_any (s : ByteArray) (w : World) (hs : s.size ≤ 4) :
    Calls Try.prog 40 #[.string s] w fun e w' => e = .returned (.int .i64 (Oct.num s.data.toList)) ∧ w' = w := by
  go_enter Try.func40, Try.ntmps40
  go_wp2
  go_loop [3, 7] (fun n i => ∃ k : Nat, k ≤ s.size ∧ i = .int .i64 k ∧ n = .int .i64 (Oct.num (s.data.toList.take k))) (fun _ i => s.size - (intOf i).toNat)
  case atStart => exact ⟨0, Nat.zero_le _, rfl, rfl⟩
  case round =>
    obtain ⟨k, hk, rfl, rfl⟩ := hrel
    by_cases hlt : k < s.size
    · have hb := Oct.num_take_lt s k (by omega)
      have HS : Hid (Oct.num (s.data.toList.take (k + 1)) = Oct.num (s.data.toList.take k) * 256 + s[k].toNat) := Oct.num_take_succ s k hlt
      have hby : (s[k].toNat : Int) < 256 := by have := s[k].toNat_lt; omega
      go_wp2
      go_round
      case rel => exact ⟨k + 1, by omega, by go_num, by rw [HS.out]; rw [Oct.or_byte _ _ (by omega) (by omega) (by omega) (by omega)]; go_num⟩
      case measure => simp [intOf]; omega
    · go_wp2
      go_ret
      exact ⟨Oct.ret_int (by rw [List.take_of_length_le (by simp; omega)]), rfl⟩

theorem conv_room (W : World) (a b c d : Int) (k : Nat) (hk : k ≤ 4) :
    (convert 37 9 (.slice (some ⟨W.heap.size, 0, none⟩) k 4)).run Try.prog (W.alloc (.cells #[.int .u8 a, .int .u8 b, .int .u8 c, .int .u8 d] 66))
      = .ok (.string (strOfNums ([a, b, c, d].take k))) (W.alloc (.cells #[.int .u8 a, .int .u8 b, .int .u8 c, .int .u8 d] 66)) := by
  refine run_convert_bytes_arg _ 37 5 Try.underlying37 Try.underlying5 _ 0 k 4 _ (by simp; omega) ?_ 9 Try.underlying9
  intro i hi
  have h4 : i = 0 ∨ i = 1 ∨ i = 2 ∨ i = 3 := by omega
  rcases h4 with rfl | rfl | rfl | rfl <;> simp [go_sem, List.getD, hi]

set_option maxHeartbeats 400000 in
theorem put1 (n : Int) (w : World) (h0 : 0 ≤ n) (h1 : n < 256) :
    Calls Try.prog 34 #[.int .i64 1, .int .i64 n] w fun e w' => e = .returned (.tuple #[.string ⟨(Oct.be 1 n.toNat).toArray⟩, .bool true]) ∧ Below w.heap.size w w' := by
  have hz : (n / 256 != 0) = false := by simp; omega
  have hcv := fun W a b c d => conv_room W a b c d 1 (by omega)
  go_enter Try.func34, Try.ntmps34
  go_wp2_with (go_at_call 45; refine (sizeRight_yes _ _ (by omega) (by omega)).mono ?_; rintro e w' ⟨rfl, rfl⟩)
  go_rounds 2
  go_ret2
  refine ⟨Oct.ret_sb (Oct.str1 n), ?_⟩
  (repeat first | exact Below.refl _ _ | refine Below.drew ?_ | refine Below.alloc ?_ (by simp) _ | refine Below.setCell ?_ (by simp) _)

set_option maxHeartbeats 400000 in
theorem put1_no (n : Int) (w : World) (h0 : 0 ≤ n) (h1 : 256 ≤ n) :
    Calls Try.prog 34 #[.int .i64 1, .int .i64 n] w fun e w' => e = .returned (.tuple #[.string ⟨#[]⟩, .bool false]) ∧ w' = w := by
  have hz : (n / 256 != 0) = true := by simp; omega
  go_enter Try.func34, Try.ntmps34
  go_wp2_with (go_at_call 45; refine (sizeRight_yes _ _ (by omega) (by omega)).mono ?_; rintro e w' ⟨rfl, rfl⟩)
  go_ret2
  exact ⟨rfl, rfl⟩

set_option maxHeartbeats 400000 in
theorem put2 (n : Int) (w : World) (h0 : 0 ≤ n) (h1 : n < 65536) :
    Calls Try.prog 34 #[.int .i64 2, .int .i64 n] w fun e w' => e = .returned (.tuple #[.string ⟨(Oct.be 2 n.toNat).toArray⟩, .bool true]) ∧ Below w.heap.size w w' := by
  have hz : (n / 65536 != 0) = false := by simp; omega
  have hcv := fun W a b c d => conv_room W a b c d 2 (by omega)
  go_enter Try.func34, Try.ntmps34
  go_wp2_with (go_at_call 45; refine (sizeRight_yes _ _ (by omega) (by omega)).mono ?_; rintro e w' ⟨rfl, rfl⟩)
  go_rounds 3
  go_ret2
  refine ⟨Oct.ret_sb (Oct.str2 n h0), ?_⟩
  (repeat first | exact Below.refl _ _ | refine Below.drew ?_ | refine Below.alloc ?_ (by simp) _ | refine Below.setCell ?_ (by simp) _)

set_option maxHeartbeats 400000 in
theorem put2_no (n : Int) (w : World) (h0 : 0 ≤ n) (h1 : 65536 ≤ n) :
    Calls Try.prog 34 #[.int .i64 2, .int .i64 n] w fun e w' => e = .returned (.tuple #[.string ⟨#[]⟩, .bool false]) ∧ w' = w := by
  have hz : (n / 65536 != 0) = true := by simp; omega
  go_enter Try.func34, Try.ntmps34
  go_wp2_with (go_at_call 45; refine (sizeRight_yes _ _ (by omega) (by omega)).mono ?_; rintro e w' ⟨rfl, rfl⟩)
  go_ret2
  exact ⟨rfl, rfl⟩

set_option maxHeartbeats 400000 in
theorem put3 (n : Int) (w : World) (h0 : 0 ≤ n) (h1 : n < 16777216) :
    Calls Try.prog 34 #[.int .i64 3, .int .i64 n] w fun e w' => e = .returned (.tuple #[.string ⟨(Oct.be 3 n.toNat).toArray⟩, .bool true]) ∧ Below w.heap.size w w' := by
  have hz : (n / 16777216 != 0) = false := by simp; omega
  have hcv := fun W a b c d => conv_room W a b c d 3 (by omega)
  go_enter Try.func34, Try.ntmps34
  go_wp2_with (go_at_call 45; refine (sizeRight_yes _ _ (by omega) (by omega)).mono ?_; rintro e w' ⟨rfl, rfl⟩)
  go_rounds 4
  go_ret2
  refine ⟨Oct.ret_sb (Oct.str3 n h0), ?_⟩
  (repeat first | exact Below.refl _ _ | refine Below.drew ?_ | refine Below.alloc ?_ (by simp) _ | refine Below.setCell ?_ (by simp) _)

set_option maxHeartbeats 400000 in
theorem put3_no (n : Int) (w : World) (h0 : 0 ≤ n) (h1 : 16777216 ≤ n) :
    Calls Try.prog 34 #[.int .i64 3, .int .i64 n] w fun e w' => e = .returned (.tuple #[.string ⟨#[]⟩, .bool false]) ∧ w' = w := by
  have hz : (n / 16777216 != 0) = true := by simp; omega
  go_enter Try.func34, Try.ntmps34
  go_wp2_with (go_at_call 45; refine (sizeRight_yes _ _ (by omega) (by omega)).mono ?_; rintro e w' ⟨rfl, rfl⟩)
  go_ret2
  exact ⟨rfl, rfl⟩

set_option maxHeartbeats 400000 in
theorem put4 (n : Int) (w : World) (h0 : 0 ≤ n) (h1 : n < 4294967296) :
    Calls Try.prog 34 #[.int .i64 4, .int .i64 n] w fun e w' => e = .returned (.tuple #[.string ⟨(Oct.be 4 n.toNat).toArray⟩, .bool true]) ∧ Below w.heap.size w w' := by
  have hz : (n / 4294967296 != 0) = false := by simp; omega
  have hcv := fun W a b c d => conv_room W a b c d 4 (by omega)
  go_enter Try.func34, Try.ntmps34
  go_wp2_with (go_at_call 45; refine (sizeRight_yes _ _ (by omega) (by omega)).mono ?_; rintro e w' ⟨rfl, rfl⟩)
  go_rounds 5
  go_ret2
  refine ⟨Oct.ret_sb (Oct.str4 n h0), ?_⟩
  (repeat first | exact Below.refl _ _ | refine Below.drew ?_ | refine Below.alloc ?_ (by simp) _ | refine Below.setCell ?_ (by simp) _)

set_option maxHeartbeats 400000 in
theorem put4_no (n : Int) (w : World) (h0 : 0 ≤ n) (h1 : 4294967296 ≤ n) :
    Calls Try.prog 34 #[.int .i64 4, .int .i64 n] w fun e w' => e = .returned (.tuple #[.string ⟨#[]⟩, .bool false]) ∧ w' = w := by
  have hz : (n / 4294967296 != 0) = true := by simp; omega
  go_enter Try.func34, Try.ntmps34
  go_wp2_with (go_at_call 45; refine (sizeRight_yes _ _ (by omega) (by omega)).mono ?_; rintro e w' ⟨rfl, rfl⟩)
  go_ret2
  exact ⟨rfl, rfl⟩


theorem put_yes (size n : Int) (w : World) (h1 : 1 ≤ size) (h2 : size ≤ 4) (h3 : 0 ≤ n) (h4 : n.toNat < 256 ^ size.toNat) :
    Calls Try.prog 34 #[.int .i64 size, .int .i64 n] w fun e w' => e = .returned (.tuple #[.string ⟨(Oct.be size.toNat n.toNat).toArray⟩, .bool true]) ∧ Below w.heap.size w w' := by
  rcases Oct.sizes h1 h2 with rfl | rfl | rfl | rfl
  · exact put1 n w h3 (by simp at h4; omega)
  · exact put2 n w h3 (by simp at h4; omega)
  · exact put3 n w h3 (by simp at h4; omega)
  · exact put4 n w h3 (by simp at h4; omega)

set_option maxHeartbeats 400000 in
theorem put_no (size n : Int) (w : World) (h : ¬ ((1 ≤ size ∧ size ≤ 4) ∧ 0 ≤ n ∧ n.toNat < 256 ^ size.toNat)) :
    Calls Try.prog 34 #[.int .i64 size, .int .i64 n] w fun e w' => e = .returned (.tuple #[.string ⟨#[]⟩, .bool false]) ∧ w' = w := by
  by_cases hs : 1 ≤ size ∧ size ≤ 4
  · by_cases h0 : 0 ≤ n
    · obtain ⟨h1, h2⟩ := hs
      rcases Oct.sizes h1 h2 with rfl | rfl | rfl | rfl
      · exact put1_no n w h0 (by simp [h0] at h; omega)
      · exact put2_no n w h0 (by simp [h0] at h; omega)
      · exact put3_no n w h0 (by simp [h0] at h; omega)
      · exact put4_no n w h0 (by simp [h0] at h; omega)
    · clear h
      obtain ⟨ha, hb⟩ := hs
      have hn : n < 0 := by omega
      clear h0
      go_enter Try.func34, Try.ntmps34
      go_wp2_with (go_at_call 45; refine (sizeRight_yes _ _ ha hb).mono ?_; rintro e w' ⟨rfl, rfl⟩)
      go_ret2
      exact ⟨rfl, rfl⟩
  · clear h
    have HS : Hid (¬ (1 ≤ size ∧ size ≤ 4)) := hs
    clear hs
    go_enter Try.func34, Try.ntmps34
    go_wp2_with (go_at_call 45; refine (sizeRight_no _ _ HS.out).mono ?_; rintro e w' ⟨rfl, rfl⟩)
    go_ret2
    exact ⟨rfl, rfl⟩

set_option maxHeartbeats 400000 in
theorem get_no (s : ByteArray) (pos size : Int) (w : World) (hs : s.size ≤ maxLen) (h : ¬ ((1 ≤ size ∧ size ≤ 4) ∧ 0 ≤ pos ∧ pos ≤ s.size - size)) :
    Calls Try.prog 28 #[.string s, .int .i64 pos, .int .i64 size] w fun e w' => e = .returned (.tuple #[.int .i64 0, .bool false]) ∧ w' = w := by
  have HS : Hid (¬ ((1 ≤ size ∧ size ≤ 4) ∧ 0 ≤ pos ∧ pos ≤ s.size - size)) := h
  clear h
  go_enter Try.func28, Try.ntmps28
  go_wp2_with (go_at_call 33; refine (within_no _ _ _ _ hs HS.out).mono ?_; rintro e w' ⟨rfl, rfl⟩)
  go_ret2
  exact ⟨rfl, rfl⟩

set_option maxHeartbeats 400000 in
theorem get_yes (s : ByteArray) (pos size : Int) (w : World) (hs : s.size ≤ maxLen) (h1 : 1 ≤ size) (h2 : size ≤ 4) (h3 : 0 ≤ pos) (h4 : pos ≤ s.size - size) :
    Calls Try.prog 28 #[.string s, .int .i64 pos, .int .i64 size] w fun e w' => e = .returned (.tuple #[.int .i64 (Oct.num ((s.data.toList.drop pos.toNat).take size.toNat)), .bool true]) ∧ w' = w := by
  have hs' := hs
  unfold maxLen at hs'
  go_enter Try.func28, Try.ntmps28
  go_wp2_with fail
  refine (within_yes _ _ _ _ hs h1 h2 h3 h4).mono ?_
  rintro e w' ⟨rfl, rfl⟩
  go_wp2_with fail
  refine (number_any _ _ (by rw [Oct.ext_size _ _ _ (by omega)]; omega)).mono ?_
  rintro e w' ⟨rfl, rfl⟩
  go_wp2_with fail
  go_ret2
  exact ⟨Oct.ret_ib (by rw [show (pos + size).toNat - pos.toNat = size.toNat from by omega]), rfl⟩

set_option maxHeartbeats 400000 in
theorem set_no1 (s : ByteArray) (pos size n : Int) (w : World) (hs : s.size ≤ maxLen) (h : ¬ ((1 ≤ size ∧ size ≤ 4) ∧ 0 ≤ pos ∧ pos ≤ s.size - size)) :
    Calls Try.prog 19 #[.string s, .int .i64 pos, .int .i64 size, .int .i64 n] w fun e w' => e = .returned (.tuple #[.string ⟨#[]⟩, .bool false]) ∧ w' = w := by
  have HS : Hid (¬ ((1 ≤ size ∧ size ≤ 4) ∧ 0 ≤ pos ∧ pos ≤ s.size - size)) := h
  clear h
  go_enter Try.func19, Try.ntmps19
  go_wp2_with (go_at_call 33; refine (within_no _ _ _ _ hs HS.out).mono ?_; rintro e w' ⟨rfl, rfl⟩)
  go_ret2
  exact ⟨rfl, rfl⟩

set_option maxHeartbeats 400000 in
theorem set_no2 (s : ByteArray) (pos size n : Int) (w : World) (hs : s.size ≤ maxLen) (h1 : 1 ≤ size) (h2 : size ≤ 4) (h3 : 0 ≤ pos) (h4 : pos ≤ s.size - size)
    (h : ¬ ((1 ≤ size ∧ size ≤ 4) ∧ 0 ≤ n ∧ n.toNat < 256 ^ size.toNat)) :
    Calls Try.prog 19 #[.string s, .int .i64 pos, .int .i64 size, .int .i64 n] w fun e w' => e = .returned (.tuple #[.string ⟨#[]⟩, .bool false]) ∧ w' = w := by
  have HS : Hid (¬ ((1 ≤ size ∧ size ≤ 4) ∧ 0 ≤ n ∧ n.toNat < 256 ^ size.toNat)) := h
  clear h
  go_enter Try.func19, Try.ntmps19
  go_wp2_with fail
  refine (within_yes _ _ _ _ hs h1 h2 h3 h4).mono ?_
  rintro e w' ⟨rfl, rfl⟩
  go_wp2_with fail
  refine (put_no _ _ _ HS.out).mono ?_
  rintro e w' ⟨rfl, rfl⟩
  go_wp2_with fail
  go_ret2
  exact ⟨rfl, rfl⟩

set_option maxHeartbeats 400000 in
theorem set_yes (s : ByteArray) (pos size n : Int) (w : World) (hs : s.size ≤ maxLen) (h1 : 1 ≤ size) (h2 : size ≤ 4) (h3 : 0 ≤ pos) (h4 : pos ≤ s.size - size)
    (h5 : 0 ≤ n) (h6 : n.toNat < 256 ^ size.toNat) :
    Calls Try.prog 19 #[.string s, .int .i64 pos, .int .i64 size, .int .i64 n] w fun e w' => e = .returned (.tuple #[.string ⟨(Oct.put s.data.toList pos.toNat size.toNat n.toNat).toArray⟩, .bool true]) ∧ Below w.heap.size w w' := by
  have hs' := hs
  unfold maxLen at hs'
  have H6 : Hid (n.toNat < 256 ^ size.toNat) := h6
  clear h6
  have hp1 : pos ≤ s.size := by omega
  have hp2 : pos + size ≤ s.size := by omega
  have hp3 : 0 ≤ pos + size := by omega
  have hz1 : (s.extract 0 pos.toNat).size + (ByteArray.mk (Oct.be size.toNat n.toNat).toArray).size ≤ 9223372036854775807 := by
    rw [Oct.ext_size _ _ _ (by omega), Oct.mk_size, Oct.be_length]; omega
  have hz2 : (s.extract 0 pos.toNat ++ ByteArray.mk (Oct.be size.toNat n.toNat).toArray).size + (s.extract (pos + size).toNat s.size).size ≤ 9223372036854775807 := by
    rw [ByteArray.size_append, Oct.ext_size _ _ _ (by omega), Oct.ext_size _ _ _ (by omega), Oct.mk_size, Oct.be_length]; omega
  have ha1 := fun wx => run_string_add_sum (P := Try.prog) (w := wx) _ _ hz1
  have ha2 := fun wx => run_string_add_sum (P := Try.prog) (w := wx) _ _ hz2
  clear hz1 hz2
  go_enter Try.func19, Try.ntmps19
  go_wp2_with fail
  refine (within_yes _ _ _ _ hs h1 h2 h3 h4).mono ?_
  rintro e w' ⟨rfl, rfl⟩
  go_wp2_with fail
  refine (put_yes _ _ _ h1 h2 h5 H6.out).mono ?_
  rintro e w1 ⟨rfl, hg⟩
  go_wp2_with fail
  go_region
  go_wp2_with fail
  go_ret2
  exact ⟨Oct.ret_sb (Oct.put_eq s pos size n h3 (by omega)), hg.drew⟩
end Go.Proofs.Ytmeafeomfblncaa
