/- What the reference functions of chapter 1 compute, one contract a function. -/
import Derived.Test.YtmeafeomfblncaaOct
namespace Go.Proofs.Ytmeafeomfblncaa
open Go.ChangeShapes Go.WideShapes Go.ChangeAt Go.RowKit

set_option maxHeartbeats 400000 in
theorem rget_no (s : ByteArray) (pos size : Int) (w : World) (hs : s.size ≤ maxLen) (h : ¬ ((1 ≤ size ∧ size ≤ 4) ∧ 0 ≤ pos ∧ pos ≤ s.size - size)) :
    Calls Try.prog 30 #[.string s, .int .i64 pos, .int .i64 size] w fun e w' => e = .returned (.tuple #[.int .i64 0, .bool false]) ∧ w' = w := by
  have hs' := hs
  unfold maxLen at hs'
  by_cases h1 : size < 1
  · clear h
    go_enter Try.func30, Try.ntmps30
    go_wp2_with fail
    go_ret2
    exact ⟨rfl, rfl⟩
  · by_cases h2 : 4 < size
    · clear h
      go_enter Try.func30, Try.ntmps30
      go_wp2_with fail
      go_ret2
      exact ⟨rfl, rfl⟩
    · by_cases h3 : pos < 0
      · clear h
        go_enter Try.func30, Try.ntmps30
        go_wp2_with fail
        go_ret2
        exact ⟨rfl, rfl⟩
      · have h4 : s.size - size < pos := by omega
        clear h
        go_enter Try.func30, Try.ntmps30
        go_wp2_with fail
        go_ret2
        exact ⟨rfl, rfl⟩

set_option maxRecDepth 100000 in
set_option maxHeartbeats 400000 in
theorem rget_nat (s : ByteArray) (p : Nat) (size : Int) (w : World) (hs : s.size ≤ maxLen) (h1 : 1 ≤ size) (h2 : size ≤ 4) (h4 : (p : Int) ≤ s.size - size) :
    Calls Try.prog 30 #[.string s, .int .i64 p, .int .i64 size] w fun e w' => e = .returned (.tuple #[.int .i64 (Oct.num ((s.data.toList.drop p).take size.toNat)), .bool true]) ∧ w' = w := by
  have hs' := hs
  unfold maxLen at hs'
  have d1 : decide (size < 1) = false := by simp; omega
  have d2 : decide (4 < size) = false := by simp; omega
  have d4 : decide ((s.size : Int) - size < p) = false := by simp; omega
  go_enter Try.func30, Try.ntmps30
  go_wp2_with fail
  go_loop [8, 9] (fun n i => ∃ k : Nat, k ≤ size.toNat ∧ i = .int .i64 k ∧ n = .int .i64 (Oct.num ((s.data.toList.drop p).take k))) (fun _ i => size.toNat - (intOf i).toNat)
  case atStart => exact ⟨0, Nat.zero_le _, rfl, rfl⟩
  case round =>
    obtain ⟨k, hk, rfl, rfl⟩ := hrel
    by_cases hlt : k < size.toNat
    · have hp : p + k < s.size := by omega
      have hb := Oct.num_drop_lt s p k (by omega)
      have HS : Hid (Oct.num ((s.data.toList.drop p).take (k + 1)) = Oct.num ((s.data.toList.drop p).take k) * 256 + s[p + k].toNat) := Oct.num_drop_succ s p k hp
      have hby : (s[p + k].toNat : Int) < 256 := by have := s[p + k].toNat_lt; omega
      have hlt' : (k : Int) < size := by omega
      have hk' : k + 1 ≤ size.toNat := by omega
      have HK : Hid (k + 1 ≤ size.toNat) := hk'
      clear d1 d2 d4 hlt hk hk'
      go_wp2
      go_round
      case rel => exact ⟨k + 1, HK.out, by go_num, by rw [HS.out]; go_num⟩
      case measure => have := HK.out; simp [intOf]; omega
    · have hlt' : ¬ (k : Int) < size := by omega
      go_wp2
      go_ret2
      have : k = size.toNat := by omega
      subst this
      exact ⟨rfl, rfl⟩

theorem rget_yes (s : ByteArray) (pos size : Int) (w : World) (hs : s.size ≤ maxLen) (h1 : 1 ≤ size) (h2 : size ≤ 4) (h3 : 0 ≤ pos) (h4 : pos ≤ s.size - size) :
    Calls Try.prog 30 #[.string s, .int .i64 pos, .int .i64 size] w fun e w' => e = .returned (.tuple #[.int .i64 (Oct.num ((s.data.toList.drop pos.toNat).take size.toNat)), .bool true]) ∧ w' = w := by
  obtain ⟨p, rfl⟩ := Int.eq_ofNat_of_zero_le h3
  rw [Int.toNat_natCast]
  exact rget_nat s p size w hs h1 h2 h4

theorem conv_one (W : World) (a : Int) (b : Nat) (hb : W.heap.size = b) :
    (convert 37 9 (.slice (some ⟨b, 0, none⟩) 1 1)).run Try.prog (W.alloc (.cells #[.int .u8 a] 5))
      = .ok (.string ⟨#[UInt8.ofNat a.toNat]⟩) (W.alloc (.cells #[.int .u8 a] 5)) := by
  subst hb
  refine run_convert_bytes_arg _ 37 5 Try.underlying37 Try.underlying5 _ 0 1 1 [a] rfl ?_ 9 Try.underlying9
  intro i hi
  have h4 : i = 0 := by omega
  subst h4
  simp [go_sem, List.getD]

set_option maxHeartbeats 400000 in
theorem rput1 (n : Int) (w : World) (h0 : 0 ≤ n) (h1 : n < 256) :
    Calls Try.prog 38 #[.int .i64 1, .int .i64 n] w fun e w' => e = .returned (.tuple #[.string ⟨(Oct.be 1 n.toNat).toArray⟩, .bool true]) ∧ Below w.heap.size w w' := by
  have d1 : decide (n < 0) = false := by simp; omega
  have d2 : decide (256 ≤ n) = false := by simp; omega
  have hcv := conv_one
  go_enter Try.func38, Try.ntmps38
  go_wp2_with fail
  go_rounds 2
  go_ret2
  refine ⟨Oct.ret_sb (Oct.rstr1 n), ?_⟩
  (repeat first | exact Below.refl _ _ | refine Below.drew ?_ | refine Below.alloc ?_ (by simp <;> omega) _ | refine Below.setCell ?_ (by simp <;> omega) _)

set_option maxHeartbeats 400000 in
theorem rput1_no (n : Int) (w : World) (h0 : 0 ≤ n) (h1 : 256 ≤ n) :
    Calls Try.prog 38 #[.int .i64 1, .int .i64 n] w fun e w' => e = .returned (.tuple #[.string ⟨#[]⟩, .bool false]) ∧ w' = w := by
  go_enter Try.func38, Try.ntmps38
  go_wp2_with fail
  go_ret2
  exact ⟨rfl, rfl⟩

set_option maxHeartbeats 400000 in
theorem rput2 (n : Int) (w : World) (h0 : 0 ≤ n) (h1 : n < 65536) :
    Calls Try.prog 38 #[.int .i64 2, .int .i64 n] w fun e w' => e = .returned (.tuple #[.string ⟨(Oct.be 2 n.toNat).toArray⟩, .bool true]) ∧ Below w.heap.size w w' := by
  have d1 : decide (n < 0) = false := by simp; omega
  have d2 : decide (65536 ≤ n) = false := by simp; omega
  have hcv := conv_one
  go_enter Try.func38, Try.ntmps38
  go_wp2_with fail
  go_rounds 3
  go_ret2
  refine ⟨Oct.ret_sb (Oct.rstr2 n h0), ?_⟩
  (repeat first | exact Below.refl _ _ | refine Below.drew ?_ | refine Below.alloc ?_ (by simp <;> omega) _ | refine Below.setCell ?_ (by simp <;> omega) _)

set_option maxHeartbeats 400000 in
theorem rput2_no (n : Int) (w : World) (h0 : 0 ≤ n) (h1 : 65536 ≤ n) :
    Calls Try.prog 38 #[.int .i64 2, .int .i64 n] w fun e w' => e = .returned (.tuple #[.string ⟨#[]⟩, .bool false]) ∧ w' = w := by
  go_enter Try.func38, Try.ntmps38
  go_wp2_with fail
  go_ret2
  exact ⟨rfl, rfl⟩

set_option maxHeartbeats 400000 in
theorem rput3 (n : Int) (w : World) (h0 : 0 ≤ n) (h1 : n < 16777216) :
    Calls Try.prog 38 #[.int .i64 3, .int .i64 n] w fun e w' => e = .returned (.tuple #[.string ⟨(Oct.be 3 n.toNat).toArray⟩, .bool true]) ∧ Below w.heap.size w w' := by
  have d1 : decide (n < 0) = false := by simp; omega
  have d2 : decide (16777216 ≤ n) = false := by simp; omega
  have hcv := conv_one
  go_enter Try.func38, Try.ntmps38
  go_wp2_with fail
  go_rounds 4
  go_ret2
  refine ⟨Oct.ret_sb (Oct.rstr3 n h0), ?_⟩
  (repeat first | exact Below.refl _ _ | refine Below.drew ?_ | refine Below.alloc ?_ (by simp <;> omega) _ | refine Below.setCell ?_ (by simp <;> omega) _)

set_option maxHeartbeats 400000 in
theorem rput3_no (n : Int) (w : World) (h0 : 0 ≤ n) (h1 : 16777216 ≤ n) :
    Calls Try.prog 38 #[.int .i64 3, .int .i64 n] w fun e w' => e = .returned (.tuple #[.string ⟨#[]⟩, .bool false]) ∧ w' = w := by
  go_enter Try.func38, Try.ntmps38
  go_wp2_with fail
  go_ret2
  exact ⟨rfl, rfl⟩

set_option maxHeartbeats 400000 in
theorem rput4 (n : Int) (w : World) (h0 : 0 ≤ n) (h1 : n < 4294967296) :
    Calls Try.prog 38 #[.int .i64 4, .int .i64 n] w fun e w' => e = .returned (.tuple #[.string ⟨(Oct.be 4 n.toNat).toArray⟩, .bool true]) ∧ Below w.heap.size w w' := by
  have d1 : decide (n < 0) = false := by simp; omega
  have d2 : decide (4294967296 ≤ n) = false := by simp; omega
  have hcv := conv_one
  go_enter Try.func38, Try.ntmps38
  go_wp2_with fail
  go_rounds 5
  go_ret2
  refine ⟨Oct.ret_sb (Oct.rstr4 n h0), ?_⟩
  (repeat first | exact Below.refl _ _ | refine Below.drew ?_ | refine Below.alloc ?_ (by simp <;> omega) _ | refine Below.setCell ?_ (by simp <;> omega) _)

set_option maxHeartbeats 400000 in
theorem rput4_no (n : Int) (w : World) (h0 : 0 ≤ n) (h1 : 4294967296 ≤ n) :
    Calls Try.prog 38 #[.int .i64 4, .int .i64 n] w fun e w' => e = .returned (.tuple #[.string ⟨#[]⟩, .bool false]) ∧ w' = w := by
  go_enter Try.func38, Try.ntmps38
  go_wp2_with fail
  go_ret2
  exact ⟨rfl, rfl⟩

theorem rput_yes (size n : Int) (w : World) (h1 : 1 ≤ size) (h2 : size ≤ 4) (h3 : 0 ≤ n) (h4 : n.toNat < 256 ^ size.toNat) :
    Calls Try.prog 38 #[.int .i64 size, .int .i64 n] w fun e w' => e = .returned (.tuple #[.string ⟨(Oct.be size.toNat n.toNat).toArray⟩, .bool true]) ∧ Below w.heap.size w w' := by
  rcases Oct.sizes h1 h2 with rfl | rfl | rfl | rfl
  · exact rput1 n w h3 (by simp at h4; omega)
  · exact rput2 n w h3 (by simp at h4; omega)
  · exact rput3 n w h3 (by simp at h4; omega)
  · exact rput4 n w h3 (by simp at h4; omega)

set_option maxHeartbeats 400000 in
theorem rput_no (size n : Int) (w : World) (h : ¬ ((1 ≤ size ∧ size ≤ 4) ∧ 0 ≤ n ∧ n.toNat < 256 ^ size.toNat)) :
    Calls Try.prog 38 #[.int .i64 size, .int .i64 n] w fun e w' => e = .returned (.tuple #[.string ⟨#[]⟩, .bool false]) ∧ w' = w := by
  by_cases hs1 : size < 1
  · clear h
    go_enter Try.func38, Try.ntmps38
    go_wp2_with fail
    go_ret2
    exact ⟨rfl, rfl⟩
  · by_cases hs2 : 4 < size
    · clear h
      go_enter Try.func38, Try.ntmps38
      go_wp2_with fail
      go_ret2
      exact ⟨rfl, rfl⟩
    · by_cases h0 : 0 ≤ n
      · rcases Oct.sizes (show 1 ≤ size by omega) (show size ≤ 4 by omega) with rfl | rfl | rfl | rfl
        · exact rput1_no n w h0 (by simp [h0] at h; omega)
        · exact rput2_no n w h0 (by simp [h0] at h; omega)
        · exact rput3_no n w h0 (by simp [h0] at h; omega)
        · exact rput4_no n w h0 (by simp [h0] at h; omega)
      · have hn : n < 0 := by omega
        clear h h0
        go_enter Try.func38, Try.ntmps38
        go_wp2_with fail
        go_ret2
        exact ⟨rfl, rfl⟩
end Go.Proofs.Ytmeafeomfblncaa
