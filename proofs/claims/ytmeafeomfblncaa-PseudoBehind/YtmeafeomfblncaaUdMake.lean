/- make([]byte, n) and the text of it; the text of two bytes. -/
import Derived.Test.YtmeafeomfblncaaUdBuild
import Derived.Laws.IdiomStrings
import Derived.Laws.MakeOwn
import Derived.Laws.OwnMore
namespace Go.Proofs.Ytmeafeomfblncaa
open Go.ChangeShapes Go.WideShapes Go.ChangeAt Go.RowKit

theorem info_u8 : (Try.prog.info? 5).map (fun i => (i.zero, i.size, i.bytes)) = some (some (.int .u8 0), 1, 1) := by kernel_rfl
def zeroS (n : Nat) : ByteArray := strOfNums (List.replicate n 0)
theorem zeroS_list (n : Nat) : (zeroS n).data.toList = List.replicate n 0 := by simp [zeroS, strOfNums]
theorem zeroS_size (n : Nat) : (zeroS n).size = n := by rw [← Oct.len_eq, zeroS_list, List.length_replicate]
theorem make_run (n : Int) (h0 : 0 ≤ n) (hn : n ≤ 100000) (W : World) : (Instr.makeSlice 37 (.int .i64 n) (.int .i64 n)).run Try.prog W = .ok (.slice (some ⟨W.heap.size, 0, none⟩) n.toNat n.toNat) (W.alloc (.cells (madeCells #[.int .u8 0] n.toNat) 5)) := by
  obtain ⟨i0, hi, hz0, hz1, hz2⟩ := info_parts info_u8
  have h := run_make (P := Try.prog) W 37 5 i0 (.int .u8 0) Try.underlying37 hi hz0 .i64 .i64 n n h0 (Int.le_refl _) (by rw [hz2]; omega) (by omega)
  rw [hz1, Nat.mul_one] at h
  exact h
theorem made_cell (W : World) (n i : Nat) (h : i < n) : (W.alloc (.cells (madeCells #[.int .u8 0] n) 5)).cell? ⟨W.heap.size, i, none⟩ = some (.int .u8 0) := by
  have e : (madeCells #[.int .u8 0] n)[i]? = some (.int .u8 0) := by
    rw [← Array.getElem?_toList, toList_madeCells_one, List.getElem?_replicate, if_pos h]
  simp [go_sem, e]
theorem conv_zeros (W : World) (n : Nat) : (convert 37 9 (.slice (some ⟨W.heap.size, 0, none⟩) n n)).run Try.prog (W.alloc (.cells (madeCells #[.int .u8 0] n) 5)) = .ok (.string (zeroS n)) (W.alloc (.cells (madeCells #[.int .u8 0] n) 5)) := by
  refine run_convert_bytes_arg _ 37 5 Try.underlying37 Try.underlying5 _ 0 n n (List.replicate n 0) (by simp) ?_ 9 Try.underlying9
  intro i hi
  rw [Nat.zero_add, made_cell W n i hi, List.getD_eq_getElem?_getD, List.getElem?_replicate, if_pos hi]; rfl
end Go.Proofs.Ytmeafeomfblncaa
