/- Small words that all other texts use: what a call returned, texts put together, what cells a row of numbers has. -/
import Derived.Test.YtmeafeomfblncaaAny
import Derived.Test.YtmeafeomfblncaaCkChg
import Derived.Test.YtmeafeomfblncaaCkRefw
namespace Go.Proofs.Ytmeafeomfblncaa
open Go.ChangeShapes Go.WideShapes Go.ChangeAt Go.RowKit

theorem ret_str {a b : ByteArray} (h : a = b) : Ending.returned (.string a) = .returned (.string b) := by rw [h]
theorem ret_bool {a b : Bool} (h : a = b) : Ending.returned (.bool a) = .returned (.bool b) := by rw [h]
theorem ret_sb {a b : ByteArray} {x y : Bool} (h1 : a = b) (h2 : x = y) : Ending.returned (.tuple #[.string a, .bool x]) = .returned (.tuple #[.string b, .bool y]) := by rw [h1, h2]
theorem ret_si {a b : ByteArray} {x y : Int} (h1 : a = b) (h2 : x = y) : Ending.returned (.tuple #[.string a, .int .i64 x]) = .returned (.tuple #[.string b, .int .i64 y]) := by rw [h1, h2]
theorem ret_ii {a b x y : Int} (h1 : a = b) (h2 : x = y) : Ending.returned (.tuple #[.int .i64 a, .int .i64 x]) = .returned (.tuple #[.int .i64 b, .int .i64 y]) := by rw [h1, h2]
theorem ret_kb {k : IntKind} {a b : Int} {x y : Bool} (h1 : a = b) (h2 : x = y) : Ending.returned (.tuple #[.int k a, .bool x]) = .returned (.tuple #[.int k b, .bool y]) := by rw [h1, h2]
theorem add_run (x y : ByteArray) (hx : x.size ≤ 281474976710656) (hy : y.size ≤ 281474976710656) : ∀ wx, (Op.stringOp .add x y).run Try.prog wx = .ok (.string (x ++ y)) wx := fun wx => run_string_add_sum (P := Try.prog) (w := wx) x y (by omega)
theorem app_list (a b : ByteArray) : (a ++ b).data.toList = a.data.toList ++ b.data.toList := by rw [ByteArray.data_append, Array.toList_append]
theorem wrap_u32 (n : Int) (h0 : 0 ≤ n) (h1 : n ≤ 4294967295) : IntKind.u32.wrap n = n := by rw [IntKind.wrap_u32]; omega
theorem cell_on {w w' : World} {p : Addr} {v : Value} (h : w.cell? p = some v) (hb : Below w.heap.size w w') : w'.cell? p = some v := (hb.cell (block_lt_of_cell h)).trans h
/-- From the head of block g on stand the numbers zs. -/
def Rds (w : World) (g : Nat) (zs : List Int) : Prop := ∀ i, i < zs.length → w.cell? ⟨g, i, none⟩ = some (.int .i64 (zs.getD i 0))
theorem Rds.on {W W' : World} {g : Nat} {zs : List Int} (h : Rds W g zs) (hb : Below W.heap.size W W') : Rds W' g zs := fun i hi => by
  rw [hb.cell (block_lt_of_cell (h i hi))]; exact h i hi
theorem rds_new2 (w : World) (t : TypeId) (a b : Int) : Rds (w.alloc (.cells #[.int .i64 a, .int .i64 b] t)) w.heap.size [a, b] := by
  intro i hi
  have h3 : i = 0 ∨ i = 1 := by simp at hi; omega
  rcases h3 with rfl | rfl <;> simp [go_sem]
end Go.Proofs.Ytmeafeomfblncaa
