/- make([]int, n), and rising of package anchor. -/
import Derived.Test.YtckkdgifjgkoaaaAnRem
import Derived.Test.YtckkdgifjgkoaaaAnFresh
namespace Go.Proofs.Ytckkdgifjgkoaaa
open Go.ChangeShapes Go.WideShapes Go.ChangeAt Go.RowKit An

theorem make_run (r : Nat) (hr : r ≤ 100000) (W : World) : (Instr.makeSlice 44 (.int .i64 (r : Int)) (.int .i64 (r : Int))).run Try.prog W = .ok (.slice (some ⟨W.heap.size, 0, none⟩) r r) (W.alloc (.cells (madeCells #[.int .i64 0] r) 3)) := by
  obtain ⟨i0, hi, hz0, hz1, hz2⟩ := info_parts info_int
  have h := run_make (P := Try.prog) W 44 3 i0 (.int .i64 0) Try.underlying44 hi hz0 .i64 .i64 (r : Int) (r : Int) (by omega) (Int.le_refl _) (by rw [hz2]; omega) (by omega)
  rw [hz1, Nat.mul_one] at h
  exact h
theorem made_lst (W : World) (r : Nat) : Lst (W.alloc (.cells (madeCells #[.int .i64 0] r) 3)) W.heap.size r fun _ => 0 := by
  refine ⟨_, _, World.alloc_heap_new _ _, fun i hi => ?_⟩
  rw [← Array.getElem?_toList, toList_madeCells_one, List.getElem?_replicate, if_pos hi]; rfl
/-- The first k rise, the others are 0. -/
def upto (k : Nat) : Nat → Nat := fun j => if j < k then j else 0
theorem upto_zero : upto 0 = fun _ => 0 := by funext j; unfold upto; rw [if_neg (by omega)]
theorem upto_succ (k : Nat) : upd (upto k) k k = upto (k + 1) := by
  funext j
  unfold upto
  by_cases e : j = k
  · rw [e, upd_same, if_pos (by omega)]
  · rw [upd_other _ _ _ _ e]
    by_cases h : j < k
    · rw [if_pos h, if_pos (by omega)]
    · rw [if_neg h, if_neg (by omega)]
set_option maxRecDepth 100000 in
set_option maxHeartbeats 1000000 in
theorem rising_any (r : Nat) (hr : r ≤ 100000) (w : World) :
    Calls Try.prog 42 #[.int .i64 (r : Int)] w fun e w' => e = .returned (.slice (some ⟨w.heap.size, 0, none⟩) r r) ∧ Lst w' w.heap.size r id ∧ Below w.heap.size w w' := by
  have hmk := make_run r hr w
  have hr1 : (r : Int) ≤ 100000 := by omega
  go_enter Try.func42, Try.ntmps42
  go_wp2_with fail
  have hL0 := made_lst w r
  rw [← upto_zero] at hL0
  have hB0 : Below w.heap.size w (w.alloc (.cells (madeCells #[.int .i64 0] r) 3)) := (Below.refl _ _).alloc (Nat.le_refl _) _
  clear hmk
  generalize w.alloc (.cells (madeCells #[.int .i64 0] r) 3) = W0 at *
  obtain ⟨g, hg⟩ : ∃ g, w.heap.size = g := ⟨_, rfl⟩
  have HG : Shut (w.heap.size ≤ g) := ⟨by omega⟩
  rw [hg] at hL0
  simp only [hg]
  have HGE : Shut (w.heap.size = g) := ⟨hg⟩
  clear hg
  go_loopw [4, 9] (fun _ i W => ∃ k : Nat, k ≤ r ∧ i = .int .i64 (k : Int) ∧ Lst W g r (upto k) ∧ Below w.heap.size w W) (fun _ i _ => r - (intOf i).toNat)
  case atStart => exact ⟨0, Nat.zero_le _, rfl, hL0, hB0⟩
  case round =>
    obtain ⟨k, hk, rfl, hL, hb⟩ := hrel
    clear hL0 hB0
    by_cases hlt : k < r
    · have hlt1 : (k : Int) < r := by omega
      have hc := hL.cell k hlt
      have hf := hL.free k
      have HL2 : Shut (Lst (wr.setCell ⟨g, k, none⟩ (.int .i64 (k : Int))) g r (upto (k + 1))) := ⟨by rw [← upto_succ]; exact hL.set k k hlt⟩
      have HB2 : Shut (Below w.heap.size w (wr.setCell ⟨g, k, none⟩ (.int .i64 (k : Int)))) := ⟨hb.setCell (p := ⟨g, k, none⟩) HG.out _⟩
      clear hL hb
      go_wp2_with fail
      go_roundw
      case rel => exact ⟨k + 1, by omega, by go_num, HL2.out, HB2.out⟩
      case measure => simp [intOf]; omega
    · obtain rfl : k = r := by omega
      have HL2 : Shut (Lst wr g k id) := ⟨hL.congr fun i hi => if_pos hi⟩
      have HB2 : Shut (Below w.heap.size w wr) := ⟨hb⟩
      clear hL hb
      go_wp2_with fail
      go_ret
      exact ⟨by rw [HGE.out]; rfl, by rw [HGE.out]; exact HL2.out, HB2.out⟩
end Go.Proofs.Ytckkdgifjgkoaaa
