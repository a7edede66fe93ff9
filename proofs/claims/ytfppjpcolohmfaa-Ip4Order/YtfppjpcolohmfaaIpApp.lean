/- Texts put together: nothing behind, and the like. -/
import Derived.Test.YtfppjpcolohmfaaIpKept
namespace Go.Proofs.Ytfppjpcolohmfaa
open Go.RowKit

theorem app_empty (x : ByteArray) : x ++ (⟨#[]⟩ : ByteArray) = x := by apply Oct.ba_ext; rw [app_list]; simp
theorem parse_built0 {h : Hd} {body : ByteArray} (b : Built h body) : parseE (built h body) = 0 ∧ parseH (built h body) = h ∧ parseS (built h body) = body := by
  have := parse_built b ⟨#[]⟩
  rw [app_empty] at this
  exact this
theorem meas_built0 {h : Hd} {body : ByteArray} (b : Built h body) : Meas (built h body) := by have := meas_built b ⟨#[]⟩; rw [app_empty] at this; exact this
theorem begins_of0 {h : Hd} {body : ByteArray} (b : Built h body) : Begins (built h body) h (btotal h body) (bcheck h body) := by have := begins_of b ⟨#[]⟩; rw [app_empty] at this; exact this
theorem pX_built0 {h : Hd} {body : ByteArray} (b : Built h body) : pX (built h body) = bhead h body := by have := pX_built b ⟨#[]⟩; rw [app_empty] at this; exact this
end Go.Proofs.Ytfppjpcolohmfaa
