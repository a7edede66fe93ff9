/- addr.Mask, Net.Has, Net.right at all arguments. -/
import Derived.Test.YtnnhkjjnolhaoaaDoorAdEnv
namespace Go.Proofs.YtnnhkjjnolhaoaaDoor
open Go.ChangeShapes Go.WideShapes Go.ChangeAt Go.RowKit

set_option maxHeartbeats 400000 in
theorem mask_no (b : Int) (w : World) (h : b < 0 ∨ 32 < b) :
    Calls Tryd.prog 15 #[.int .i64 b] w fun e w' => e = .returned (.tuple #[.int .u32 0, .bool false]) ∧ w' = w := by
  rcases h with h | h
  · go_enter Tryd.func15, Tryd.ntmps15
    go_wp2
    go_ret2
    exact ⟨rfl, rfl⟩
  · have h' : ¬ b < 0 := by omega
    go_enter Tryd.func15, Tryd.ntmps15
    go_wp2
    go_ret2
    exact ⟨rfl, rfl⟩
set_option maxHeartbeats 400000 in
theorem mask_yes (b : Int) (w : World) (h0 : 0 ≤ b) (h1 : b ≤ 32) :
    Calls Tryd.prog 15 #[.int .i64 b] w fun e w' => e = .returned (.tuple #[.int .u32 (Ad.msk b), .bool true]) ∧ w' = w := by
  go_enter Tryd.func15, Tryd.ntmps15
  go_wp2
  go_ret2
  exact ⟨rfl, rfl⟩

set_option maxHeartbeats 400000 in
theorem has_any (n b a : Int) (w : World) (h0 : 0 ≤ a) (h1 : a ≤ 4294967295) :
    Calls Tryd.prog 21 #[.agg #[.int .u32 n, .int .i64 b], .int .u32 a] w fun e w' => e = .returned (.bool (Ad.hasB n b a)) ∧ Below w.heap.size w w' := by
  by_cases h : b < 0 ∨ 32 < b
  · rw [Ad.has_out h]
    go_enter Tryd.func21, Tryd.ntmps21
    go_wp2_with fail
    refine (mask_no _ _ h).mono ?_
    rintro e w1 ⟨rfl, rfl⟩
    go_wp2_with fail
    go_ret
    exact ⟨rfl, by go_grown⟩
  · have hm0 : 0 ≤ b := by omega
    have hm1 : b ≤ 32 := by omega
    have hand := Ad.and_msk b a hm0 hm1 h0 h1
    clear h
    by_cases hc : Ad.cut b a = n
    · rw [Ad.has_yes hm0 hm1 hc]
      have he : (Ad.cut b a == n) = true := by simp [hc]
      clear hc
      go_enter Tryd.func21, Tryd.ntmps21
      go_wp2_with fail
      refine (mask_yes _ _ hm0 hm1).mono ?_
      rintro e w1 ⟨rfl, rfl⟩
      go_wp2_with fail
      go_ret
      exact ⟨rfl, by go_grown⟩
    · rw [Ad.has_no hc]
      have he : (Ad.cut b a == n) = false := by simp [hc]
      clear hc
      go_enter Tryd.func21, Tryd.ntmps21
      go_wp2_with fail
      refine (mask_yes _ _ hm0 hm1).mono ?_
      rintro e w1 ⟨rfl, rfl⟩
      go_wp2_with fail
      go_ret
      exact ⟨rfl, by go_grown⟩

set_option maxHeartbeats 400000 in
theorem right_any (n b : Int) (w : World) (h0 : 0 ≤ n) (h1 : n ≤ 4294967295) :
    Calls Tryd.prog 27 #[.agg #[.int .u32 n, .int .i64 b]] w fun e w' => e = .returned (.bool (Ad.hasB n b n)) ∧ Below w.heap.size w w' := by
  go_enter Tryd.func27, Tryd.ntmps27
  go_wp2_with fail
  refine (has_any _ _ _ _ h0 h1).mono ?_
  rintro e w1 ⟨rfl, hb⟩
  go_wp2_with fail
  go_ret
  exact ⟨rfl, Below.then ((Below.refl _ _).alloc (Nat.le_refl _) _) hb⟩
end Go.Proofs.YtnnhkjjnolhaoaaDoor
