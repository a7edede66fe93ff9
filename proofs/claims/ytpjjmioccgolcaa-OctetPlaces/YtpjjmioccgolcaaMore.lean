/- The contracts of Set and Get once more, their answers under names of their own. -/
import Derived.Test.YtpjjmioccgolcaaLaw
import Derived.Test.YtpjjmioccgolcaaMathb
namespace Go.Proofs.Ytpjjmioccgolcaa
open Go.ChangeShapes Go.WideShapes Go.ChangeAt Go.RowKit

theorem set_ex (s : ByteArray) (pos n : Int) (w : World) (hs : s.size ≤ maxLen) (h3 : 0 ≤ pos) (h4 : pos ≤ s.size - 4) (h5 : 0 ≤ n) (h6 : n < 4294967296) :
    Calls Try.prog 10 #[.string s, .int .i64 pos, .int .i64 4, .int .i64 n] w fun e w' => ∃ t : ByteArray, e = .returned (.tuple #[.string t, .bool true]) ∧ Hid (t.data.toList = Oct.put s.data.toList pos.toNat 4 n.toNat) ∧ t.size = s.size ∧ Grown w w' := by
  refine (set_yes s pos 4 n w hs (by decide) (by decide) h3 h4 h5 (by rw [show (4 : Int).toNat = 4 from rfl]; omega)).mono ?_
  rintro e w' ⟨rfl, hg⟩
  exact ⟨_, rfl, rfl, Oct.put_size s pos.toNat 4 n.toNat (by omega), hg⟩

theorem get_ex (s : ByteArray) (pos : Int) (w : World) (hs : s.size ≤ maxLen) (h3 : 0 ≤ pos) (h4 : pos ≤ s.size - 4) :
    Calls Try.prog 8 #[.string s, .int .i64 pos, .int .i64 4] w fun e w' => ∃ v : Int, e = .returned (.tuple #[.int .i64 v, .bool true]) ∧ Hid (v = Oct.num ((s.data.toList.drop pos.toNat).take 4)) ∧ w' = w := by
  refine (get_yes s pos 4 w hs (by decide) (by decide) h3 h4).mono ?_
  rintro e w' ⟨rfl, rfl⟩
  exact ⟨_, rfl, rfl, rfl⟩
end Go.Proofs.Ytpjjmioccgolcaa
