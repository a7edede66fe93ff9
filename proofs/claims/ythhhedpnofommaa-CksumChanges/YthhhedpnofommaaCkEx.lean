/- The chapter's examples hold: what each statement asks first. -/
import Derived.Test.YthhhedpnofommaaCkSum
namespace Go.Proofs.Ythhhedpnofommaa
open Go.ChangeShapes Go.WideShapes Go.ChangeAt Go.RowKit

theorem u16_bounds {n : Int} (h : (Lit.int .u16 n).wf = true) : 0 ≤ n ∧ n ≤ 65535 := by simpa [Lit.wf, IntKind.min, IntKind.max, IntKind.signed, IntKind.bits] using h
theorem u64_bounds {n : Int} (h : (Lit.int .u64 n).wf = true) : 0 ≤ n ∧ n ≤ 18446744073709551615 := by simpa [Lit.wf, IntKind.min, IntKind.max, IntKind.signed, IntKind.bits] using h
theorem u32_bounds {n : Int} (h : (Lit.int .u32 n).wf = true) : 0 ≤ n ∧ n ≤ 4294967295 := by simpa [Lit.wf, IntKind.min, IntKind.max, IntKind.signed, IntKind.bits] using h
theorem u8_bounds {n : Int} (h : (Lit.int .u8 n).wf = true) : 0 ≤ n ∧ n ≤ 255 := by simpa [Lit.wf, IntKind.min, IntKind.max, IntKind.signed, IntKind.bits] using h
theorem i64_bounds {n : Int} (h : (Lit.int .i64 n).wf = true) : -9223372036854775808 ≤ n ∧ n ≤ 9223372036854775807 := by simpa [Lit.wf, IntKind.min, IntKind.max, IntKind.signed, IntKind.bits] using h

theorem ex1 : 65535 - Ck.sum (ByteArray.mk #[0, 1, 242, 3, 244, 245, 246, 247]).data.toList = 8717 := by decide
theorem ex2 : Ck.upd 56623 21845 12933 = 0 := by decide
theorem ex3 : Ck.fold 65536 = 1 := by decide

set_option maxHeartbeats 400000 in
theorem examples_ok (w : World) : Calls Try.prog 10 #[] w fun e w' => e = .returned (.bool true) ∧ Below w.heap.size w w' := by
  go_enter Try.func10, Try.ntmps10
  go_wp2_with fail
  refine (check_any _ _ (by decide)).mono ?_
  rintro e w1 ⟨rfl, hb1⟩
  rw [ex1]
  have HB := hide hb1
  clear hb1
  go_wp2_with fail
  refine (update_any _ _ _ _ (by decide) (by decide) (by decide) (by decide) (by decide) (by decide)).mono ?_
  rintro e w2 ⟨rfl, hb2⟩
  rw [ex2]
  have HB2 := hide hb2
  clear hb2
  go_wp2_with fail
  refine (fold_any _ _ (by decide) (by decide)).mono ?_
  rintro e w3 ⟨rfl, rfl⟩
  rw [ex3]
  go_wp2_with fail
  go_ret
  exact ⟨rfl, Below.then (unhide HB) (unhide HB2)⟩
end Go.Proofs.Ythhhedpnofommaa
