/- octet.number: the number that at most four bytes are. -/
import Derived.Test.YthhhedpnofommaaChecked
import Derived.Test.YthhhedpnofommaaMath
import Derived.OpenShut
import Derived.WalkSpells
import Derived.WalkLawsBesides
import Derived.Handy
namespace Go.Proofs.Ythhhedpnofommaa
open Go.ChangeShapes Go.WideShapes Go.ChangeAt Go.RowKit

set_option maxHeartbeats 400000 in
theorem number_any (s : ByteArray) (w : World) (hs : s.size ≤ 4) :
    Calls Try.prog 31 #[.string s] w fun e w' => e = .returned (.int .i64 (Oct.num s.data.toList)) ∧ w' = w := by
  go_enter Try.func31, Try.ntmps31
  go_wp2
  go_loop [3, 7] (fun n i => ∃ k : Nat, k ≤ s.size ∧ i = .int .i64 k ∧ n = .int .i64 (Oct.num (s.data.toList.take k))) (fun _ i => s.size - (intOf i).toNat)
  case atStart => exact ⟨0, Nat.zero_le _, rfl, rfl⟩
  case round =>
    obtain ⟨k, hk, rfl, rfl⟩ := hrel
    by_cases hlt : k < s.size
    · have hb := Oct.num_take_lt s k (by omega)
      have HS : Hid (Oct.num (s.data.toList.take (k + 1)) = Oct.num (s.data.toList.take k) * 256 + s[k].toNat) := Oct.num_take_succ s k hlt
      have hby : (s[k].toNat : Int) < 256 := by have := s[k].toNat_lt; omega
      go_wp2
      go_round
      case rel => exact ⟨k + 1, by omega, by go_num, by rw [HS.out]; rw [Oct.or_byte _ _ (by omega) (by omega) (by omega) (by omega)]; go_num⟩
      case measure => simp [intOf]; omega
    · go_wp2
      go_ret
      exact ⟨Oct.ret_int (by rw [List.take_of_length_le (by simp; omega)]), rfl⟩

end Go.Proofs.Ythhhedpnofommaa
