/- number and word: bytes as numbers. -/
import Derived.Test.YtbiilgdgmedpkaaSpMix
import Derived.Test.YtbiilgdgmedpkaaSpLe
import Derived.Test.YtbiilgdgmedpkaaSpRow
namespace Go.Proofs.Ytbiilgdgmedpkaa
open Go.ChangeShapes Go.WideShapes Go.ChangeAt Go.RowKit Sp

theorem int_u64 {a b : Int} (h : a = b) : Value.int .u64 a = .int .u64 b := by rw [h]
set_option maxHeartbeats 400000 in
theorem number_any (s : ByteArray) (w : World) (hs : s.size ≤ 8) :
    Calls Try.prog 16 #[.string s] w fun e w' => e = .returned (.int .u64 (nn (leB s.data.toList))) ∧ w' = w := by
  go_enter Try.func16, Try.ntmps16
  go_wp2
  go_loop [3, 7] (fun n i => ∃ k : Nat, k ≤ s.size ∧ i = .int .i64 k ∧ n = .int .u64 (nn (leB (s.data.toList.take k)))) (fun _ i => s.size - (intOf i).toNat)
  case atStart => exact ⟨0, Nat.zero_le _, rfl, rfl⟩
  case round =>
    obtain ⟨k, hk, rfl, rfl⟩ := hrel
    by_cases hlt : k < s.size
    · have HS := hide (num_step' s k hlt (by omega))
      generalize hX : leB (s.data.toList.take k) = X at *
      clear hX
      go_wp2_with fail
      go_round
      case rel => exact ⟨k + 1, by omega, by go_num, int_u64 (unhide HS)⟩
      case measure => simp [intOf]; omega
    · have HE : Hid (leB (s.data.toList.take k) = leB s.data.toList) := by show _ = _; rw [List.take_of_length_le (by rw [len_eq]; omega)]
      have hd : decide ((k : Int) < s.size) = false := by simp; omega
      go_wp2_with fail
      go_ret
      exact ⟨ret_u64 (by rw [HE.out]), rfl⟩

set_option maxHeartbeats 400000 in
theorem word_any (s : ByteArray) (a : Nat) (w : World) (hs : s.size ≤ maxLen) (ha : a + 8 ≤ s.size) :
    Calls Try.prog 19 #[.string s, .int .i64 a] w fun e w' => e = .returned (.int .u64 (nn (wd s a 0))) ∧ w' = w := by
  unfold maxLen at hs
  go_enter Try.func19, Try.ntmps19
  go_wp2
  go_loop [5, 6] (fun n i => ∃ m : Nat, m ≤ 8 ∧ i = .int .i64 ((m : Int) - 1) ∧ n = .int .u64 (nn (wd s a m))) (fun _ i => (intOf i + 1).toNat)
  case atStart => exact ⟨8, by omega, rfl, int_u64 (wd_start s a).symm⟩
  case round =>
    obtain ⟨m, hm, rfl, rfl⟩ := hrel
    rcases m with _ | m
    · go_wp2_with fail
      go_ret
      exact ⟨rfl, rfl⟩
    · have hlt : a + m < s.size := by omega
      have HS := hide (wd_step s a m ha (by omega) hlt)
      generalize hX : wd s a (m + 1) = X at *
      clear hX
      go_wp2_with fail
      go_round
      case rel => exact ⟨m, by omega, rfl, int_u64 (unhide HS)⟩
      case measure => simp [intOf]
end Go.Proofs.Ytbiilgdgmedpkaa
