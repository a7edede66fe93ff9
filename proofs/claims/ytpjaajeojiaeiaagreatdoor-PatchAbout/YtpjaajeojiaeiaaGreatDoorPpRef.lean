/- What ref of the law's package answers. -/
import Derived.Test.YtpjaajeojiaeiaaGreatDoorPpB
namespace Go.Proofs.YtpjaajeojiaeiaaGreatDoor
open Go.ChangeShapes Go.WideShapes Go.ChangeAt Go.RowKit

set_option maxRecDepth 100000 in
set_option maxHeartbeats 1000000 in
theorem lref_any (t : En) (w : World) :
  Calls Tryz.prog 15 #[t.val] w fun e w' => e = .returned t.val ∧ Below w.heap.size w w' := by
 have bel := Below.then (alloc_on' w (.cells t.cells.toArray 27)) (alloc_on' _ (.cells t.cells.toArray 36))
 go_enter Tryz.func15, Tryz.ntmps15
 go_wp2
 exact bodyPost_ret (v := t.val) (by simp [results, Tryz.results15, go_sem]) rfl ⟨rfl, bel⟩
end Go.Proofs.YtpjaajeojiaeiaaGreatDoor
