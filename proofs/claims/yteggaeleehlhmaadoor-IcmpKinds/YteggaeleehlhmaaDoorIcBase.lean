/- Small words that all other texts use; what the four package variables hold where a call begins, and that it stays. -/
import Derived.Test.YteggaeleehlhmaaDoorAny
import Derived.Test.YteggaeleehlhmaaDoorCkChg
import Derived.Test.YteggaeleehlhmaaDoorCkRefw
namespace Go.Proofs.YteggaeleehlhmaaDoor
open Go.ChangeShapes Go.WideShapes Go.ChangeAt Go.RowKit

theorem ret_str {a b : ByteArray} (h : a = b) : Ending.returned (.string a) = .returned (.string b) := by rw [h]
theorem ret_bool {a b : Bool} (h : a = b) : Ending.returned (.bool a) = .returned (.bool b) := by rw [h]
theorem ret_si {a b : ByteArray} {x y : Int} (h1 : a = b) (h2 : x = y) : Ending.returned (.tuple #[.string a, .int .i64 x]) = .returned (.tuple #[.string b, .int .i64 y]) := by rw [h1, h2]
theorem ret_ib {a b : Int} {x y : Bool} (h1 : a = b) (h2 : x = y) : Ending.returned (.tuple #[.int .i64 a, .bool x]) = .returned (.tuple #[.int .i64 b, .bool y]) := by rw [h1, h2]
theorem add_run (x y : ByteArray) (hx : x.size ≤ 140737488355328) (hy : y.size ≤ 140737488355328) : ∀ wx, (Op.stringOp .add x y).run Tryd.prog wx = .ok (.string (x ++ y)) wx := fun wx => run_string_add_sum (P := Tryd.prog) (w := wx) x y (by omega)
theorem app_list (a b : ByteArray) : (a ++ b).data.toList = a.data.toList ++ b.data.toList := by rw [ByteArray.data_append, Array.toList_append]
theorem wrap_u32 (n : Int) (h0 : 0 ≤ n) (h1 : n ≤ 4294967295) : IntKind.u32.wrap n = n := by rw [IntKind.wrap_u32]; omega

/-- The four variables' cells. -/
def Env (w : World) : Prop :=
  (w.cell? ⟨0, 0, none⟩ = some (.int .i64 3) ∧ w.cell? ⟨0, 1, none⟩ = some (.int .i64 4)) ∧
  (w.cell? ⟨1, 0, none⟩ = some (.int .i64 3) ∧ w.cell? ⟨1, 1, none⟩ = some (.int .i64 0)) ∧
  (w.cell? ⟨2, 0, none⟩ = some (.int .i64 11) ∧ w.cell? ⟨2, 1, none⟩ = some (.int .i64 0)) ∧
  (w.cell? ⟨3, 0, none⟩ = some (.int .i64 12) ∧ w.cell? ⟨3, 1, none⟩ = some (.int .i64 0))
theorem cell_on {w w' : World} {p : Addr} {v : Value} (h : w.cell? p = some v) (hb : Below w.heap.size w w') : w'.cell? p = some v := (hb.cell (block_lt_of_cell h)).trans h
theorem Env.on {w w' : World} (h : Env w) (hb : Below w.heap.size w w') : Env w' := by
  obtain ⟨⟨a0, a1⟩, ⟨b0, b1⟩, ⟨c0, c1⟩, ⟨d0, d1⟩⟩ := h
  exact ⟨⟨cell_on a0 hb, cell_on a1 hb⟩, ⟨cell_on b0 hb, cell_on b1 hb⟩, ⟨cell_on c0 hb, cell_on c1 hb⟩, ⟨cell_on d0 hb, cell_on d1 hb⟩⟩
theorem Env.alloc {w : World} (h : Env w) (o : Obj) : Env (w.alloc o) := h.on ((Below.refl _ _).alloc (Nat.le_refl _) o)
end Go.Proofs.YteggaeleehlhmaaDoor
