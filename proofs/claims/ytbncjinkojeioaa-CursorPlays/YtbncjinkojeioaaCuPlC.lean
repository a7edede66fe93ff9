/- The law on deeds, where the number of numbers is refused. -/
import Derived.Test.YtbncjinkojeioaaCuDuo
namespace Go.Proofs.Ytbncjinkojeioaa
open Go.ChangeShapes Go.WideShapes Go.ChangeAt Go.RowKit Sp Cu

set_option maxRecDepth 100000 in
set_option maxHeartbeats 1000000 in
theorem plays_bad1 (a0 R : Int) (a : Option Addr) (len cap : Nat) (h1 : 300 < a0) (h2 : a0 ≤ 65536) (h3 : a0.tmod 301 = R) (q : R < 1) (w : World) :
    Calls Try.prog 3 #[.int .i64 a0, .slice a len cap] w fun e w' => e = .returned (.bool true) ∧ Below w.heap.size w w' := by
  have hnew := fun u => new_bad R (.inl q) u
  have hrnew := fun u => rnew_bad R (.inl q) u
  clear q
  go_enter Try.func3, Try.ntmps3
  go_wp2_with fail
  refine (examples_any _).mono ?_
  rintro e w1 ⟨rfl, hb1⟩
  have HB := hide hb1
  clear hb1
  go_wp2_with fail
  refine (hnew _).mono ?_
  rintro e w2 ⟨rfl, rfl⟩
  go_wp2_with fail
  refine (hrnew _).mono ?_
  rintro e w2 ⟨rfl, rfl⟩
  go_wp2_with fail
  go_ret
  exact ⟨rfl, unhide HB⟩
set_option maxRecDepth 100000 in
set_option maxHeartbeats 1000000 in
theorem plays_bad2 (a0 : Int) (a : Option Addr) (len cap : Nat) (h1 : ¬ 300 < a0) (q : a0 < 1) (w : World) :
    Calls Try.prog 3 #[.int .i64 a0, .slice a len cap] w fun e w' => e = .returned (.bool true) ∧ Below w.heap.size w w' := by
  have hnew := fun u => new_bad a0 (.inl q) u
  have hrnew := fun u => rnew_bad a0 (.inl q) u
  clear q
  go_enter Try.func3, Try.ntmps3
  go_wp2_with fail
  refine (examples_any _).mono ?_
  rintro e w1 ⟨rfl, hb1⟩
  have HB := hide hb1
  clear hb1
  go_wp2_with fail
  refine (hnew _).mono ?_
  rintro e w2 ⟨rfl, rfl⟩
  go_wp2_with fail
  refine (hrnew _).mono ?_
  rintro e w2 ⟨rfl, rfl⟩
  go_wp2_with fail
  go_ret
  exact ⟨rfl, unhide HB⟩
set_option maxRecDepth 100000 in
set_option maxHeartbeats 1000000 in
theorem plays_bad3 (a0 : Int) (a : Option Addr) (len cap : Nat) (h1 : 300 < a0) (h2 : ¬ a0 ≤ 65536) (q : ¬ a0 < 1) (q2 : 65536 < a0) (w : World) :
    Calls Try.prog 3 #[.int .i64 a0, .slice a len cap] w fun e w' => e = .returned (.bool true) ∧ Below w.heap.size w w' := by
  have hnew := fun u => new_bad a0 (.inr ⟨q, q2⟩) u
  have hrnew := fun u => rnew_bad a0 (.inr ⟨q, q2⟩) u
  clear q q2
  go_enter Try.func3, Try.ntmps3
  go_wp2_with fail
  refine (examples_any _).mono ?_
  rintro e w1 ⟨rfl, hb1⟩
  have HB := hide hb1
  clear hb1
  go_wp2_with fail
  refine (hnew _).mono ?_
  rintro e w2 ⟨rfl, rfl⟩
  go_wp2_with fail
  refine (hrnew _).mono ?_
  rintro e w2 ⟨rfl, rfl⟩
  go_wp2_with fail
  go_ret
  exact ⟨rfl, unhide HB⟩
end Go.Proofs.Ytbncjinkojeioaa
