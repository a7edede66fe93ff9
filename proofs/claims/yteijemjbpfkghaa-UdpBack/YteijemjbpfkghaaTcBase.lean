/- Small words that all other texts use: what a walk is not to see, worlds one behind the other, what cells a row of numbers has. -/
import Derived.Test.YteijemjbpfkghaaChecked
import Derived.OpenShut
import Derived.WalkSpells
import Derived.WalkLawsBesides
import Derived.Handy
import Derived.Below
namespace Go.Proofs.Yteijemjbpfkghaa
open Go.ChangeShapes Go.WideShapes Go.ChangeAt Go.RowKit

theorem hide {p : Prop} (h : p) : Hid p := h
theorem unhide {p : Prop} (h : Hid p) : p := h
theorem ret_int {k : IntKind} {a b : Int} (h : a = b) : Ending.returned (.int k a) = .returned (.int k b) := by rw [h]
theorem ret_str {a b : ByteArray} (h : a = b) : Ending.returned (.string a) = .returned (.string b) := by rw [h]
theorem ret_bool {a b : Bool} (h : a = b) : Ending.returned (.bool a) = .returned (.bool b) := by rw [h]
/-- One behind the other. -/
theorem Below.then {a b c : World} (h : Below a.heap.size a b) (k : Below b.heap.size b c) : Below a.heap.size a c := h.trans (k.mono h.size)
/-- From the head of block g on stand the numbers zs. -/
def Reads (w : World) (g : Nat) (zs : List Int) : Prop := ∀ i, i < zs.length → w.cell? ⟨g, i, none⟩ = some (.int .i64 (zs.getD i 0))
theorem Reads.on {W W' : World} {g : Nat} {zs : List Int} (h : Reads W g zs) (hb : Below W.heap.size W W') : Reads W' g zs := fun i hi => by
  rw [hb.cell (block_lt_of_cell (h i hi))]; exact h i hi
theorem reads_new1 (w : World) (t : TypeId) (a : Int) : Reads (w.alloc (.cells #[.int .i64 a] t)) w.heap.size [a] := by
  intro i hi
  have h3 : i = 0 := by simp at hi; omega
  subst h3; simp [go_sem]
theorem reads_new2 (w : World) (t : TypeId) (a b : Int) : Reads (w.alloc (.cells #[.int .i64 a, .int .i64 b] t)) w.heap.size [a, b] := by
  intro i hi
  have h3 : i = 0 ∨ i = 1 := by simp at hi; omega
  rcases h3 with rfl | rfl <;> simp [go_sem]
theorem reads_new4 (w : World) (t : TypeId) (a b c d : Int) : Reads (w.alloc (.cells #[.int .i64 a, .int .i64 b, .int .i64 c, .int .i64 d] t)) w.heap.size [a, b, c, d] := by
  intro i hi
  have h3 : i = 0 ∨ i = 1 ∨ i = 2 ∨ i = 3 := by simp at hi; omega
  rcases h3 with rfl | rfl | rfl | rfl <;> simp [go_sem]
end Go.Proofs.Yteijemjbpfkghaa
