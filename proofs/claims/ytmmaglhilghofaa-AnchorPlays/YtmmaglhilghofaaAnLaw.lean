/- What the laws' walks share. -/
import Derived.Test.YtmmaglhilghofaaAnDoes
import Derived.Test.YtmmaglhilghofaaAnEx
namespace Go.Proofs.Ytmmaglhilghofaa
open Go.ChangeShapes Go.WideShapes Go.ChangeAt Go.RowKit An

theorem u64_bounds {n : Int} (h : (Lit.int .u64 n).wf = true) : 0 ≤ n ∧ n ≤ 18446744073709551615 := by simpa [Lit.wf, IntKind.min, IntKind.max, IntKind.signed, IntKind.bits] using h
theorem u8_bounds {n : Int} (h : (Lit.int .u8 n).wf = true) : 0 ≤ n ∧ n ≤ 255 := by simpa [Lit.wf, IntKind.min, IntKind.max, IntKind.signed, IntKind.bits] using h
theorem i64_bounds {n : Int} (h : (Lit.int .i64 n).wf = true) : -9223372036854775808 ≤ n ∧ n ≤ 9223372036854775807 := by simpa [Lit.wf, IntKind.min, IntKind.max, IntKind.signed, IntKind.bits] using h
section
variable {base : Nat} {w : World} {b : Bk} {v : Value} {s : An}
theorem remove_no (hA : AnAt hdA base w b v s) (x : Int) (h : ¬ RemOk s x) :
    Calls Try.prog 12 #[.pointer (some ⟨b.p, 0, none⟩), .int .i64 x] w fun e w' => e = .returned (.int .i64 19) ∧ w' = w := by
  by_cases hrange : 0 ≤ x ∧ x < s.r
  · obtain ⟨y, rfl⟩ := Int.eq_ofNat_of_zero_le hrange.1
    exact remove_gone hA y (by omega) fun e => h ⟨hrange.1, hrange.2, e⟩
  · exact remove_out hA x (by omega)
end
end Go.Proofs.Ytmmaglhilghofaa
