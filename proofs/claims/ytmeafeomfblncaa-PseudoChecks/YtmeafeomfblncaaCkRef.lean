/- What the reference of chapter 3 computes, Sum and Check apart: one contract a function. -/
import Derived.Test.YtmeafeomfblncaaCkFold
namespace Go.Proofs.Ytmeafeomfblncaa
open Go.ChangeShapes Go.WideShapes Go.ChangeAt Go.RowKit

set_option maxHeartbeats 400000 in
theorem rfold_any (n : Int) (w : World) (h0 : 0 ≤ n) (h1 : n ≤ 18446744073709551615) :
    Calls Try.prog 44 #[.int .u64 n] w fun e w' => e = .returned (.int .u16 (Ck.fold n)) ∧ w' = w := by
  go_enter Try.func44, Try.ntmps44
  go_wp2
  go_loop [0] (fun t => ∃ m : Int, 0 ≤ m ∧ m ≤ 18446744073709551615 ∧ Ck.fold m = Ck.fold n ∧ t = .int .u64 m) (fun t => (intOf t).toNat)
  case atStart => exact ⟨n, h0, h1, rfl, rfl⟩
  case round =>
    obtain ⟨m, hm0, hm1, hm, rfl⟩ := hrel
    have HM : Hid (Ck.fold m = Ck.fold n) := hm
    clear hm
    by_cases hlt : 65535 < m
    · go_wp2
      go_round
      case rel => exact ⟨m % 65536 + m / 65536, by omega, by omega, (Ck.fold_step m hlt).trans HM.out, by go_num⟩
      case measure => simp [intOf]; omega
    · have HF : Hid (Ck.fold m = m) := Ck.fold_small m hm0 (by omega)
      go_wp2
      go_ret
      exact ⟨ret_int (by rw [← HM.out, HF.out]), rfl⟩

end Go.Proofs.Ytmeafeomfblncaa
