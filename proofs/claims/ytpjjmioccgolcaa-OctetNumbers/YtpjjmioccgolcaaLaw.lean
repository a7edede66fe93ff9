/- The chapter's examples hold: what each statement asks first. -/
import Derived.Test.YtpjjmioccgolcaaOct
namespace Go.Proofs.Ytpjjmioccgolcaa
open Go.ChangeShapes Go.WideShapes Go.ChangeAt Go.RowKit

set_option maxHeartbeats 400000 in
theorem examples_ok (w : World) : Calls Try.prog 7 #[] w fun e w' => e = .returned (.bool true) ∧ Grown w w' := by
  go_enter Try.func7, Try.ntmps7
  go_wp2_with fail
  refine (get_yes ⟨#[1, 2, 3]⟩ 1 2 w (by decide) (by decide) (by decide) (by decide) (by decide)).mono ?_
  rintro e w' ⟨rfl, rfl⟩
  rw [show (Oct.num (List.take (2 : Int).toNat (List.drop (1 : Int).toNat (ByteArray.mk #[1, 2, 3]).data.toList)) : Int) = 515 from by decide]
  go_wp2_with fail
  refine (set_yes ⟨#[97, 98, 99]⟩ 1 1 120 w' (by decide) (by decide) (by decide) (by decide) (by decide) (by decide) (by decide)).mono ?_
  rintro e w1 ⟨rfl, hg⟩
  rw [show (Oct.put (ByteArray.mk #[97, 98, 99]).data.toList (1 : Int).toNat (1 : Int).toNat (120 : Int).toNat).toArray = #[97, 120, 99] from by decide]
  go_wp2_with fail
  go_ret
  exact ⟨rfl, hg⟩
end Go.Proofs.Ytpjjmioccgolcaa
