/- What Classify of the reference of chapter 9 computes: the same as the program's. -/
import Derived.Test.YtpjaajeojiaeiaaGreatDoorPkRefCa
import Derived.Test.YtpjaajeojiaeiaaGreatDoorPkRefCt
import Derived.Test.YtpjaajeojiaeiaaGreatDoorPkRefCu
import Derived.Test.YtpjaajeojiaeiaaGreatDoorPkRefCi
import Derived.Test.YtpjaajeojiaeiaaGreatDoorPkRefCo
namespace Go.Proofs.YtpjaajeojiaeiaaGreatDoor
open Go.ChangeShapes Go.WideShapes Go.ChangeAt Go.RowKit

theorem rclassify_any (s : ByteArray) (w : World) (hs : s.size ≤ 140737488360000) :
    Calls Tryz.prog 55 #[.string s] w fun e w' => e = .returned (.tuple #[(clsP s).val, .int .i64 (clsE s)]) ∧ Below w.heap.size w w' := by
  by_cases h0 : Ip.parseE s = 0 ∧ frgE s = 0
  · by_cases h6 : (Ip.parseH s).proto = 6
    · exact rclassify_t s w hs ⟨h0.1, h0.2, h6⟩
    · by_cases h17 : (Ip.parseH s).proto = 17
      · exact rclassify_u s w hs ⟨h0.1, h0.2, h17⟩
      · by_cases h1 : (Ip.parseH s).proto = 1
        · exact rclassify_i s w hs ⟨h0.1, h0.2, h1⟩
        · exact rclassify_o s w hs ⟨h0.1, h0.2, h6, h17, h1⟩
  · exact rclassify_a s w hs h0
end Go.Proofs.YtpjaajeojiaeiaaGreatDoor
