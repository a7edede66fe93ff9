/- strings.SplitN(s, ".", 4) at every text: the pieces between its first three points. -/
import Derived.Test.YtnnhkjjnolhaoaaDoorAdEnv
namespace Go.Proofs.YtnnhkjjnolhaoaaDoor
open Go.ChangeShapes Go.WideShapes Go.ChangeAt Go.RowKit

theorem mk1 (w : World) : (Instr.makeSlice 48 (.int .i64 1) (.int .i64 1)).run Tryd.prog w = .ok (.slice (some ⟨w.heap.size, 0, none⟩) 1 1) (w.alloc (.cells #[.string ⟨#[]⟩] 9)) := by kernel_rfl
theorem mk2 (w : World) : (Instr.makeSlice 48 (.int .i64 2) (.int .i64 2)).run Tryd.prog w = .ok (.slice (some ⟨w.heap.size, 0, none⟩) 2 2) (w.alloc (.cells #[.string ⟨#[]⟩, .string ⟨#[]⟩] 9)) := by kernel_rfl
theorem mk3 (w : World) : (Instr.makeSlice 48 (.int .i64 3) (.int .i64 3)).run Tryd.prog w = .ok (.slice (some ⟨w.heap.size, 0, none⟩) 3 3) (w.alloc (.cells #[.string ⟨#[]⟩, .string ⟨#[]⟩, .string ⟨#[]⟩] 9)) := by kernel_rfl
theorem mk4 (w : World) : (Instr.makeSlice 48 (.int .i64 4) (.int .i64 4)).run Tryd.prog w = .ok (.slice (some ⟨w.heap.size, 0, none⟩) 4 4) (w.alloc (.cells #[.string ⟨#[]⟩, .string ⟨#[]⟩, .string ⟨#[]⟩, .string ⟨#[]⟩] 9)) := by kernel_rfl

set_option maxHeartbeats 400000 in
set_option maxRecDepth 100000 in
set_option linter.unusedVariables false in
theorem gsp_1_0 (s0 : ByteArray) (w : World) (hs : s0.size ≤ 140737488355328) (hN : min (4 : Int) ((s0.size : Int) + 1) = 1)
    : Calls Tryd.prog 41 #[.string s0, .string ⟨#[46]⟩, .int .i64 0, .int .i64 4] w fun e w' => e = .returned (.slice (some ⟨w.heap.size, 0, none⟩) 1 1) ∧ w' = w.alloc (.cells #[.string s0] 9) := by
  have hmk := mk1 w
  go_enter Tryd.func41, Tryd.ntmps41
  go_wp2_with fail
  refine wp_loop_rounds 1 ?_
  rw [rounds_succ]
  go_wp2_with fail
  go_ret
  exact ⟨rfl, rfl⟩

set_option maxHeartbeats 400000 in
set_option maxRecDepth 100000 in
set_option linter.unusedVariables false in
theorem gsp_2_0 (s0 : ByteArray) (w : World) (hs : s0.size ≤ 140737488355328) (hN : min (4 : Int) ((s0.size : Int) + 1) = 2)
    (H0 : ∀ w, Calls Tryd.prog 54 #[.string s0, .string ⟨#[46]⟩] w fun e w' => e = .returned (.int .i64 (-1)) ∧ w' = w)
    : Calls Tryd.prog 41 #[.string s0, .string ⟨#[46]⟩, .int .i64 0, .int .i64 4] w fun e w' => e = .returned (.slice (some ⟨w.heap.size, 0, none⟩) 1 2) ∧ w' = w.alloc (.cells #[.string s0, .string ⟨#[]⟩] 9) := by
  have hmk := mk2 w
  go_enter Tryd.func41, Tryd.ntmps41
  go_wp2_with fail
  refine wp_loop_rounds 1 ?_
  rw [rounds_succ]
  go_wp2_with fail
  refine (H0 _).mono ?_
  rintro e w0 ⟨rfl, rfl⟩
  go_wp2_with fail
  go_ret
  exact ⟨rfl, rfl⟩

set_option maxHeartbeats 400000 in
set_option maxRecDepth 100000 in
set_option linter.unusedVariables false in
theorem gsp_2_1 (s0 s1 : ByteArray) (m0 : Nat) (w : World) (hs : s0.size ≤ 140737488355328) (hN : min (4 : Int) ((s0.size : Int) + 1) = 2)
    (H0 : ∀ w, Calls Tryd.prog 54 #[.string s0, .string ⟨#[46]⟩] w fun e w' => e = .returned (.int .i64 m0) ∧ w' = w)
    (hm0 : m0 < s0.size)
    (hz0 : s0.size ≤ 140737488355328)
    (e0 : s0.extract (m0 + 1) s0.size = s1)
    : Calls Tryd.prog 41 #[.string s0, .string ⟨#[46]⟩, .int .i64 0, .int .i64 4] w fun e w' => e = .returned (.slice (some ⟨w.heap.size, 0, none⟩) 2 2) ∧ w' = w.alloc (.cells #[.string (s0.extract 0 m0), .string s1] 9) := by
  have hmk := mk2 w
  go_enter Tryd.func41, Tryd.ntmps41
  go_wp2_with fail
  refine wp_loop_rounds 2 ?_
  rw [rounds_succ]
  go_wp2_with fail
  refine (H0 _).mono ?_
  rintro e w0 ⟨rfl, rfl⟩
  go_wp2_with fail
  rw [rounds_succ]
  go_wp2_with fail
  go_ret
  exact ⟨rfl, rfl⟩

set_option maxHeartbeats 400000 in
set_option maxRecDepth 100000 in
set_option linter.unusedVariables false in
theorem gsp_3_0 (s0 : ByteArray) (w : World) (hs : s0.size ≤ 140737488355328) (hN : min (4 : Int) ((s0.size : Int) + 1) = 3)
    (H0 : ∀ w, Calls Tryd.prog 54 #[.string s0, .string ⟨#[46]⟩] w fun e w' => e = .returned (.int .i64 (-1)) ∧ w' = w)
    : Calls Tryd.prog 41 #[.string s0, .string ⟨#[46]⟩, .int .i64 0, .int .i64 4] w fun e w' => e = .returned (.slice (some ⟨w.heap.size, 0, none⟩) 1 3) ∧ w' = w.alloc (.cells #[.string s0, .string ⟨#[]⟩, .string ⟨#[]⟩] 9) := by
  have hmk := mk3 w
  go_enter Tryd.func41, Tryd.ntmps41
  go_wp2_with fail
  refine wp_loop_rounds 1 ?_
  rw [rounds_succ]
  go_wp2_with fail
  refine (H0 _).mono ?_
  rintro e w0 ⟨rfl, rfl⟩
  go_wp2_with fail
  go_ret
  exact ⟨rfl, rfl⟩

set_option maxHeartbeats 400000 in
set_option maxRecDepth 100000 in
set_option linter.unusedVariables false in
theorem gsp_3_1 (s0 s1 : ByteArray) (m0 : Nat) (w : World) (hs : s0.size ≤ 140737488355328) (hN : min (4 : Int) ((s0.size : Int) + 1) = 3)
    (H0 : ∀ w, Calls Tryd.prog 54 #[.string s0, .string ⟨#[46]⟩] w fun e w' => e = .returned (.int .i64 m0) ∧ w' = w)
    (hm0 : m0 < s0.size)
    (hz0 : s0.size ≤ 140737488355328)
    (e0 : s0.extract (m0 + 1) s0.size = s1)
    (H1 : ∀ w, Calls Tryd.prog 54 #[.string s1, .string ⟨#[46]⟩] w fun e w' => e = .returned (.int .i64 (-1)) ∧ w' = w)
    : Calls Tryd.prog 41 #[.string s0, .string ⟨#[46]⟩, .int .i64 0, .int .i64 4] w fun e w' => e = .returned (.slice (some ⟨w.heap.size, 0, none⟩) 2 3) ∧ w' = w.alloc (.cells #[.string (s0.extract 0 m0), .string s1, .string ⟨#[]⟩] 9) := by
  have hmk := mk3 w
  go_enter Tryd.func41, Tryd.ntmps41
  go_wp2_with fail
  refine wp_loop_rounds 2 ?_
  rw [rounds_succ]
  go_wp2_with fail
  refine (H0 _).mono ?_
  rintro e w0 ⟨rfl, rfl⟩
  go_wp2_with fail
  rw [rounds_succ]
  go_wp2_with fail
  refine (H1 _).mono ?_
  rintro e w1 ⟨rfl, rfl⟩
  go_wp2_with fail
  go_ret
  exact ⟨rfl, rfl⟩

set_option maxHeartbeats 400000 in
set_option maxRecDepth 100000 in
set_option linter.unusedVariables false in
theorem gsp_3_2 (s0 s1 s2 : ByteArray) (m0 m1 : Nat) (w : World) (hs : s0.size ≤ 140737488355328) (hN : min (4 : Int) ((s0.size : Int) + 1) = 3)
    (H0 : ∀ w, Calls Tryd.prog 54 #[.string s0, .string ⟨#[46]⟩] w fun e w' => e = .returned (.int .i64 m0) ∧ w' = w)
    (hm0 : m0 < s0.size)
    (hz0 : s0.size ≤ 140737488355328)
    (e0 : s0.extract (m0 + 1) s0.size = s1)
    (H1 : ∀ w, Calls Tryd.prog 54 #[.string s1, .string ⟨#[46]⟩] w fun e w' => e = .returned (.int .i64 m1) ∧ w' = w)
    (hm1 : m1 < s1.size)
    (hz1 : s1.size ≤ 140737488355328)
    (e1 : s1.extract (m1 + 1) s1.size = s2)
    : Calls Tryd.prog 41 #[.string s0, .string ⟨#[46]⟩, .int .i64 0, .int .i64 4] w fun e w' => e = .returned (.slice (some ⟨w.heap.size, 0, none⟩) 3 3) ∧ w' = w.alloc (.cells #[.string (s0.extract 0 m0), .string (s1.extract 0 m1), .string s2] 9) := by
  have hmk := mk3 w
  go_enter Tryd.func41, Tryd.ntmps41
  go_wp2_with fail
  refine wp_loop_rounds 3 ?_
  rw [rounds_succ]
  go_wp2_with fail
  refine (H0 _).mono ?_
  rintro e w0 ⟨rfl, rfl⟩
  go_wp2_with fail
  rw [rounds_succ]
  go_wp2_with fail
  refine (H1 _).mono ?_
  rintro e w1 ⟨rfl, rfl⟩
  go_wp2_with fail
  rw [rounds_succ]
  go_wp2_with fail
  go_ret
  exact ⟨rfl, rfl⟩

set_option maxHeartbeats 400000 in
set_option maxRecDepth 100000 in
set_option linter.unusedVariables false in
theorem gsp_4_0 (s0 : ByteArray) (w : World) (hs : s0.size ≤ 140737488355328) (hN : min (4 : Int) ((s0.size : Int) + 1) = 4)
    (H0 : ∀ w, Calls Tryd.prog 54 #[.string s0, .string ⟨#[46]⟩] w fun e w' => e = .returned (.int .i64 (-1)) ∧ w' = w)
    : Calls Tryd.prog 41 #[.string s0, .string ⟨#[46]⟩, .int .i64 0, .int .i64 4] w fun e w' => e = .returned (.slice (some ⟨w.heap.size, 0, none⟩) 1 4) ∧ w' = w.alloc (.cells #[.string s0, .string ⟨#[]⟩, .string ⟨#[]⟩, .string ⟨#[]⟩] 9) := by
  have hmk := mk4 w
  go_enter Tryd.func41, Tryd.ntmps41
  go_wp2_with fail
  refine wp_loop_rounds 1 ?_
  rw [rounds_succ]
  go_wp2_with fail
  refine (H0 _).mono ?_
  rintro e w0 ⟨rfl, rfl⟩
  go_wp2_with fail
  go_ret
  exact ⟨rfl, rfl⟩

set_option maxHeartbeats 400000 in
set_option maxRecDepth 100000 in
set_option linter.unusedVariables false in
theorem gsp_4_1 (s0 s1 : ByteArray) (m0 : Nat) (w : World) (hs : s0.size ≤ 140737488355328) (hN : min (4 : Int) ((s0.size : Int) + 1) = 4)
    (H0 : ∀ w, Calls Tryd.prog 54 #[.string s0, .string ⟨#[46]⟩] w fun e w' => e = .returned (.int .i64 m0) ∧ w' = w)
    (hm0 : m0 < s0.size)
    (hz0 : s0.size ≤ 140737488355328)
    (e0 : s0.extract (m0 + 1) s0.size = s1)
    (H1 : ∀ w, Calls Tryd.prog 54 #[.string s1, .string ⟨#[46]⟩] w fun e w' => e = .returned (.int .i64 (-1)) ∧ w' = w)
    : Calls Tryd.prog 41 #[.string s0, .string ⟨#[46]⟩, .int .i64 0, .int .i64 4] w fun e w' => e = .returned (.slice (some ⟨w.heap.size, 0, none⟩) 2 4) ∧ w' = w.alloc (.cells #[.string (s0.extract 0 m0), .string s1, .string ⟨#[]⟩, .string ⟨#[]⟩] 9) := by
  have hmk := mk4 w
  go_enter Tryd.func41, Tryd.ntmps41
  go_wp2_with fail
  refine wp_loop_rounds 2 ?_
  rw [rounds_succ]
  go_wp2_with fail
  refine (H0 _).mono ?_
  rintro e w0 ⟨rfl, rfl⟩
  go_wp2_with fail
  rw [rounds_succ]
  go_wp2_with fail
  refine (H1 _).mono ?_
  rintro e w1 ⟨rfl, rfl⟩
  go_wp2_with fail
  go_ret
  exact ⟨rfl, rfl⟩

set_option maxHeartbeats 400000 in
set_option maxRecDepth 100000 in
set_option linter.unusedVariables false in
theorem gsp_4_2 (s0 s1 s2 : ByteArray) (m0 m1 : Nat) (w : World) (hs : s0.size ≤ 140737488355328) (hN : min (4 : Int) ((s0.size : Int) + 1) = 4)
    (H0 : ∀ w, Calls Tryd.prog 54 #[.string s0, .string ⟨#[46]⟩] w fun e w' => e = .returned (.int .i64 m0) ∧ w' = w)
    (hm0 : m0 < s0.size)
    (hz0 : s0.size ≤ 140737488355328)
    (e0 : s0.extract (m0 + 1) s0.size = s1)
    (H1 : ∀ w, Calls Tryd.prog 54 #[.string s1, .string ⟨#[46]⟩] w fun e w' => e = .returned (.int .i64 m1) ∧ w' = w)
    (hm1 : m1 < s1.size)
    (hz1 : s1.size ≤ 140737488355328)
    (e1 : s1.extract (m1 + 1) s1.size = s2)
    (H2 : ∀ w, Calls Tryd.prog 54 #[.string s2, .string ⟨#[46]⟩] w fun e w' => e = .returned (.int .i64 (-1)) ∧ w' = w)
    : Calls Tryd.prog 41 #[.string s0, .string ⟨#[46]⟩, .int .i64 0, .int .i64 4] w fun e w' => e = .returned (.slice (some ⟨w.heap.size, 0, none⟩) 3 4) ∧ w' = w.alloc (.cells #[.string (s0.extract 0 m0), .string (s1.extract 0 m1), .string s2, .string ⟨#[]⟩] 9) := by
  have hmk := mk4 w
  go_enter Tryd.func41, Tryd.ntmps41
  go_wp2_with fail
  refine wp_loop_rounds 3 ?_
  rw [rounds_succ]
  go_wp2_with fail
  refine (H0 _).mono ?_
  rintro e w0 ⟨rfl, rfl⟩
  go_wp2_with fail
  rw [rounds_succ]
  go_wp2_with fail
  refine (H1 _).mono ?_
  rintro e w1 ⟨rfl, rfl⟩
  go_wp2_with fail
  rw [rounds_succ]
  go_wp2_with fail
  refine (H2 _).mono ?_
  rintro e w2 ⟨rfl, rfl⟩
  go_wp2_with fail
  go_ret
  exact ⟨rfl, rfl⟩

set_option maxHeartbeats 400000 in
set_option maxRecDepth 100000 in
set_option linter.unusedVariables false in
theorem gsp_4_3 (s0 s1 s2 s3 : ByteArray) (m0 m1 m2 : Nat) (w : World) (hs : s0.size ≤ 140737488355328) (hN : min (4 : Int) ((s0.size : Int) + 1) = 4)
    (H0 : ∀ w, Calls Tryd.prog 54 #[.string s0, .string ⟨#[46]⟩] w fun e w' => e = .returned (.int .i64 m0) ∧ w' = w)
    (hm0 : m0 < s0.size)
    (hz0 : s0.size ≤ 140737488355328)
    (e0 : s0.extract (m0 + 1) s0.size = s1)
    (H1 : ∀ w, Calls Tryd.prog 54 #[.string s1, .string ⟨#[46]⟩] w fun e w' => e = .returned (.int .i64 m1) ∧ w' = w)
    (hm1 : m1 < s1.size)
    (hz1 : s1.size ≤ 140737488355328)
    (e1 : s1.extract (m1 + 1) s1.size = s2)
    (H2 : ∀ w, Calls Tryd.prog 54 #[.string s2, .string ⟨#[46]⟩] w fun e w' => e = .returned (.int .i64 m2) ∧ w' = w)
    (hm2 : m2 < s2.size)
    (hz2 : s2.size ≤ 140737488355328)
    (e2 : s2.extract (m2 + 1) s2.size = s3)
    : Calls Tryd.prog 41 #[.string s0, .string ⟨#[46]⟩, .int .i64 0, .int .i64 4] w fun e w' => e = .returned (.slice (some ⟨w.heap.size, 0, none⟩) 4 4) ∧ w' = w.alloc (.cells #[.string (s0.extract 0 m0), .string (s1.extract 0 m1), .string (s2.extract 0 m2), .string s3] 9) := by
  have hmk := mk4 w
  go_enter Tryd.func41, Tryd.ntmps41
  go_wp2_with fail
  refine wp_loop_rounds 4 ?_
  rw [rounds_succ]
  go_wp2_with fail
  refine (H0 _).mono ?_
  rintro e w0 ⟨rfl, rfl⟩
  go_wp2_with fail
  rw [rounds_succ]
  go_wp2_with fail
  refine (H1 _).mono ?_
  rintro e w1 ⟨rfl, rfl⟩
  go_wp2_with fail
  rw [rounds_succ]
  go_wp2_with fail
  refine (H2 _).mono ?_
  rintro e w2 ⟨rfl, rfl⟩
  go_wp2_with fail
  rw [rounds_succ]
  go_wp2_with fail
  go_ret
  exact ⟨rfl, rfl⟩

/-- One point more, or none. -/
theorem step_yes (s : ByteArray) (h : 46 ∈ s.data.toList) : ∃ m : Nat, (∀ w, Calls Tryd.prog 54 #[.string s, .string ⟨#[46]⟩] w fun e w' => e = .returned (.int .i64 m) ∧ w' = w) ∧ m < s.size ∧
    (s.extract 0 m).data.toList = Ad.before 46 s.data.toList ∧ s.extract (m + 1) s.size = ⟨(Ad.after 46 s.data.toList).toArray⟩ := by
  refine ⟨(Ad.before 46 s.data.toList).length, fun w => ?_, ?_, ?_, ?_⟩
  · have := index_one s 46 w
    rw [Ad.idx_yes 46 _ h] at this
    exact this
  · have := Ad.before_lt 46 _ h
    rw [len_eq] at this
    exact this
  · rw [ext_list, List.drop_zero, Ad.take_before 46 _ h]
  · rw [ext_suf, Ad.drop_after 46 _ h]
theorem step_no (s : ByteArray) (h : 46 ∉ s.data.toList) : ∀ w, Calls Tryd.prog 54 #[.string s, .string ⟨#[46]⟩] w fun e w' => e = .returned (.int .i64 (-1)) ∧ w' = w := fun w => by
  have := index_one s 46 w
  rw [Ad.idx_no 46 _ h] at this
  exact this

/-- What SplitN leaves: pieces in a new block. -/
def Split (s : ByteArray) (w : World) (e : Ending) (w' : World) : Prop :=
  ∃ (xs : List ByteArray) (c : Nat) (arr : Array Value), e = .returned (.slice (some ⟨w.heap.size, 0, none⟩) xs.length c) ∧ w' = w.alloc (.cells arr 9) ∧
    xs.length ≤ 4 ∧ (∀ (j : Nat) x, xs[j]? = some x → arr[j]? = some (.string x)) ∧ xs.map (·.data.toList) = Ad.pieces (min 3 s.size) s.data.toList ∧ ∀ x ∈ xs, x.size ≤ s.size

theorem ext_le (s : ByteArray) (a b : Nat) (h : b ≤ s.size) : (s.extract a b).size ≤ s.size := by rw [ByteArray.size_extract]; omega
theorem mk_le (s : ByteArray) : (ByteArray.mk (Ad.after 46 s.data.toList).toArray).size ≤ s.size := by
  have := Ad.after_len 46 s.data.toList
  rw [len_eq] at this
  rw [mk_size]; exact this

theorem gsp_1 (s0 : ByteArray) (w : World) (hs : s0.size ≤ 140737488355328) (hN : min (4 : Int) ((s0.size : Int) + 1) = 1) :
    Calls Tryd.prog 41 #[.string s0, .string ⟨#[46]⟩, .int .i64 0, .int .i64 4] w (Split s0 w) := by
  have hr : min 3 s0.size = 0 := by omega
  have z0 : s0.size ≤ s0.size := Nat.le_refl _
  refine (gsp_1_0 _ w hs hN ).mono ?_
  rintro e w' ⟨rfl, rfl⟩
  refine ⟨[s0], 1, _, rfl, rfl, by simp, ?_, ?_, ?_⟩
  · intro j x hx
    match j, hx with
    | 0, hx => simp at hx; subst hx; rfl
    | (j + 1), hx => simp at hx
  · rw [hr]
    simp only [List.map_cons, List.map_nil, Ad.pieces]
  · intro x hx
    simp only [List.mem_cons, List.not_mem_nil, or_false] at hx
    subst hx; exact Nat.le_refl _

theorem gsp_2 (s0 : ByteArray) (w : World) (hs : s0.size ≤ 140737488355328) (hN : min (4 : Int) ((s0.size : Int) + 1) = 2) :
    Calls Tryd.prog 41 #[.string s0, .string ⟨#[46]⟩, .int .i64 0, .int .i64 4] w (Split s0 w) := by
  have hr : min 3 s0.size = 1 := by omega
  have z0 : s0.size ≤ s0.size := Nat.le_refl _
  by_cases h0 : 46 ∈ s0.data.toList
  · obtain ⟨m0, H0, hm0, t0, e0⟩ := step_yes s0 h0
    obtain ⟨s1, hd1⟩ : ∃ x : ByteArray, x = ⟨(Ad.after 46 s0.data.toList).toArray⟩ := ⟨_, rfl⟩
    rw [← hd1] at e0
    have z1 : s1.size ≤ s0.size := Nat.le_trans (by rw [hd1]; exact mk_le s0) z0
    have a1 : Ad.after 46 s0.data.toList = s1.data.toList := by rw [hd1]
    refine (gsp_2_1 _ _ _ w hs hN H0 hm0 (by omega) e0).mono ?_
    rintro e w' ⟨rfl, rfl⟩
    refine ⟨[s0.extract 0 m0, s1], 2, _, rfl, rfl, by simp, ?_, ?_, ?_⟩
    · intro j x hx
      match j, hx with
      | 0, hx => simp at hx; subst hx; rfl
      | 1, hx => simp at hx; subst hx; rfl
      | (j + 2), hx => simp at hx
    · rw [hr]
      rw [Ad.pieces_yes 0 _ h0, a1]; simp only [List.map_cons, List.map_nil, t0, Ad.pieces]
    · intro x hx
      simp only [List.mem_cons, List.not_mem_nil, or_false] at hx
      rcases hx with rfl | rfl
      · exact Nat.le_trans (ext_le _ _ _ (Nat.le_of_lt hm0)) z0
      · exact z1
  · skip
    refine (gsp_2_0 _ w hs hN (step_no _ h0)).mono ?_
    rintro e w' ⟨rfl, rfl⟩
    refine ⟨[s0], 2, _, rfl, rfl, by simp, ?_, ?_, ?_⟩
    · intro j x hx
      match j, hx with
      | 0, hx => simp at hx; subst hx; rfl
      | (j + 1), hx => simp at hx
    · rw [hr]
      rw [Ad.pieces_no _ _ h0]; simp only [List.map_cons, List.map_nil]
    · intro x hx
      simp only [List.mem_cons, List.not_mem_nil, or_false] at hx
      subst hx; exact Nat.le_refl _

theorem gsp_3 (s0 : ByteArray) (w : World) (hs : s0.size ≤ 140737488355328) (hN : min (4 : Int) ((s0.size : Int) + 1) = 3) :
    Calls Tryd.prog 41 #[.string s0, .string ⟨#[46]⟩, .int .i64 0, .int .i64 4] w (Split s0 w) := by
  have hr : min 3 s0.size = 2 := by omega
  have z0 : s0.size ≤ s0.size := Nat.le_refl _
  by_cases h0 : 46 ∈ s0.data.toList
  · obtain ⟨m0, H0, hm0, t0, e0⟩ := step_yes s0 h0
    obtain ⟨s1, hd1⟩ : ∃ x : ByteArray, x = ⟨(Ad.after 46 s0.data.toList).toArray⟩ := ⟨_, rfl⟩
    rw [← hd1] at e0
    have z1 : s1.size ≤ s0.size := Nat.le_trans (by rw [hd1]; exact mk_le s0) z0
    have a1 : Ad.after 46 s0.data.toList = s1.data.toList := by rw [hd1]
    by_cases h1 : 46 ∈ s1.data.toList
    · obtain ⟨m1, H1, hm1, t1, e1⟩ := step_yes s1 h1
      obtain ⟨s2, hd2⟩ : ∃ x : ByteArray, x = ⟨(Ad.after 46 s1.data.toList).toArray⟩ := ⟨_, rfl⟩
      rw [← hd2] at e1
      have z2 : s2.size ≤ s0.size := Nat.le_trans (by rw [hd2]; exact mk_le s1) z1
      have a2 : Ad.after 46 s1.data.toList = s2.data.toList := by rw [hd2]
      refine (gsp_3_2 _ _ _ _ _ w hs hN H0 hm0 (by omega) e0 H1 hm1 (by omega) e1).mono ?_
      rintro e w' ⟨rfl, rfl⟩
      refine ⟨[s0.extract 0 m0, s1.extract 0 m1, s2], 3, _, rfl, rfl, by simp, ?_, ?_, ?_⟩
      · intro j x hx
        match j, hx with
        | 0, hx => simp at hx; subst hx; rfl
        | 1, hx => simp at hx; subst hx; rfl
        | 2, hx => simp at hx; subst hx; rfl
        | (j + 3), hx => simp at hx
      · rw [hr]
        rw [Ad.pieces_yes 1 _ h0, a1, Ad.pieces_yes 0 _ h1, a2]; simp only [List.map_cons, List.map_nil, t0, t1, Ad.pieces]
      · intro x hx
        simp only [List.mem_cons, List.not_mem_nil, or_false] at hx
        rcases hx with rfl | rfl | rfl
        · exact Nat.le_trans (ext_le _ _ _ (Nat.le_of_lt hm0)) z0
        · exact Nat.le_trans (ext_le _ _ _ (Nat.le_of_lt hm1)) z1
        · exact z2
    · skip
      refine (gsp_3_1 _ _ _ w hs hN H0 hm0 (by omega) e0 (step_no _ h1)).mono ?_
      rintro e w' ⟨rfl, rfl⟩
      refine ⟨[s0.extract 0 m0, s1], 3, _, rfl, rfl, by simp, ?_, ?_, ?_⟩
      · intro j x hx
        match j, hx with
        | 0, hx => simp at hx; subst hx; rfl
        | 1, hx => simp at hx; subst hx; rfl
        | (j + 2), hx => simp at hx
      · rw [hr]
        rw [Ad.pieces_yes 1 _ h0, a1, Ad.pieces_no _ _ h1]; simp only [List.map_cons, List.map_nil, t0]
      · intro x hx
        simp only [List.mem_cons, List.not_mem_nil, or_false] at hx
        rcases hx with rfl | rfl
        · exact Nat.le_trans (ext_le _ _ _ (Nat.le_of_lt hm0)) z0
        · exact z1
  · skip
    refine (gsp_3_0 _ w hs hN (step_no _ h0)).mono ?_
    rintro e w' ⟨rfl, rfl⟩
    refine ⟨[s0], 3, _, rfl, rfl, by simp, ?_, ?_, ?_⟩
    · intro j x hx
      match j, hx with
      | 0, hx => simp at hx; subst hx; rfl
      | (j + 1), hx => simp at hx
    · rw [hr]
      rw [Ad.pieces_no _ _ h0]; simp only [List.map_cons, List.map_nil]
    · intro x hx
      simp only [List.mem_cons, List.not_mem_nil, or_false] at hx
      subst hx; exact Nat.le_refl _

theorem gsp_4 (s0 : ByteArray) (w : World) (hs : s0.size ≤ 140737488355328) (hN : min (4 : Int) ((s0.size : Int) + 1) = 4) :
    Calls Tryd.prog 41 #[.string s0, .string ⟨#[46]⟩, .int .i64 0, .int .i64 4] w (Split s0 w) := by
  have hr : min 3 s0.size = 3 := by omega
  have z0 : s0.size ≤ s0.size := Nat.le_refl _
  by_cases h0 : 46 ∈ s0.data.toList
  · obtain ⟨m0, H0, hm0, t0, e0⟩ := step_yes s0 h0
    obtain ⟨s1, hd1⟩ : ∃ x : ByteArray, x = ⟨(Ad.after 46 s0.data.toList).toArray⟩ := ⟨_, rfl⟩
    rw [← hd1] at e0
    have z1 : s1.size ≤ s0.size := Nat.le_trans (by rw [hd1]; exact mk_le s0) z0
    have a1 : Ad.after 46 s0.data.toList = s1.data.toList := by rw [hd1]
    by_cases h1 : 46 ∈ s1.data.toList
    · obtain ⟨m1, H1, hm1, t1, e1⟩ := step_yes s1 h1
      obtain ⟨s2, hd2⟩ : ∃ x : ByteArray, x = ⟨(Ad.after 46 s1.data.toList).toArray⟩ := ⟨_, rfl⟩
      rw [← hd2] at e1
      have z2 : s2.size ≤ s0.size := Nat.le_trans (by rw [hd2]; exact mk_le s1) z1
      have a2 : Ad.after 46 s1.data.toList = s2.data.toList := by rw [hd2]
      by_cases h2 : 46 ∈ s2.data.toList
      · obtain ⟨m2, H2, hm2, t2, e2⟩ := step_yes s2 h2
        obtain ⟨s3, hd3⟩ : ∃ x : ByteArray, x = ⟨(Ad.after 46 s2.data.toList).toArray⟩ := ⟨_, rfl⟩
        rw [← hd3] at e2
        have z3 : s3.size ≤ s0.size := Nat.le_trans (by rw [hd3]; exact mk_le s2) z2
        have a3 : Ad.after 46 s2.data.toList = s3.data.toList := by rw [hd3]
        refine (gsp_4_3 _ _ _ _ _ _ _ w hs hN H0 hm0 (by omega) e0 H1 hm1 (by omega) e1 H2 hm2 (by omega) e2).mono ?_
        rintro e w' ⟨rfl, rfl⟩
        refine ⟨[s0.extract 0 m0, s1.extract 0 m1, s2.extract 0 m2, s3], 4, _, rfl, rfl, by simp, ?_, ?_, ?_⟩
        · intro j x hx
          match j, hx with
          | 0, hx => simp at hx; subst hx; rfl
          | 1, hx => simp at hx; subst hx; rfl
          | 2, hx => simp at hx; subst hx; rfl
          | 3, hx => simp at hx; subst hx; rfl
          | (j + 4), hx => simp at hx
        · rw [hr]
          rw [Ad.pieces_yes 2 _ h0, a1, Ad.pieces_yes 1 _ h1, a2, Ad.pieces_yes 0 _ h2, a3]; simp only [List.map_cons, List.map_nil, t0, t1, t2, Ad.pieces]
        · intro x hx
          simp only [List.mem_cons, List.not_mem_nil, or_false] at hx
          rcases hx with rfl | rfl | rfl | rfl
          · exact Nat.le_trans (ext_le _ _ _ (Nat.le_of_lt hm0)) z0
          · exact Nat.le_trans (ext_le _ _ _ (Nat.le_of_lt hm1)) z1
          · exact Nat.le_trans (ext_le _ _ _ (Nat.le_of_lt hm2)) z2
          · exact z3
      · skip
        refine (gsp_4_2 _ _ _ _ _ w hs hN H0 hm0 (by omega) e0 H1 hm1 (by omega) e1 (step_no _ h2)).mono ?_
        rintro e w' ⟨rfl, rfl⟩
        refine ⟨[s0.extract 0 m0, s1.extract 0 m1, s2], 4, _, rfl, rfl, by simp, ?_, ?_, ?_⟩
        · intro j x hx
          match j, hx with
          | 0, hx => simp at hx; subst hx; rfl
          | 1, hx => simp at hx; subst hx; rfl
          | 2, hx => simp at hx; subst hx; rfl
          | (j + 3), hx => simp at hx
        · rw [hr]
          rw [Ad.pieces_yes 2 _ h0, a1, Ad.pieces_yes 1 _ h1, a2, Ad.pieces_no _ _ h2]; simp only [List.map_cons, List.map_nil, t0, t1]
        · intro x hx
          simp only [List.mem_cons, List.not_mem_nil, or_false] at hx
          rcases hx with rfl | rfl | rfl
          · exact Nat.le_trans (ext_le _ _ _ (Nat.le_of_lt hm0)) z0
          · exact Nat.le_trans (ext_le _ _ _ (Nat.le_of_lt hm1)) z1
          · exact z2
    · skip
      refine (gsp_4_1 _ _ _ w hs hN H0 hm0 (by omega) e0 (step_no _ h1)).mono ?_
      rintro e w' ⟨rfl, rfl⟩
      refine ⟨[s0.extract 0 m0, s1], 4, _, rfl, rfl, by simp, ?_, ?_, ?_⟩
      · intro j x hx
        match j, hx with
        | 0, hx => simp at hx; subst hx; rfl
        | 1, hx => simp at hx; subst hx; rfl
        | (j + 2), hx => simp at hx
      · rw [hr]
        rw [Ad.pieces_yes 2 _ h0, a1, Ad.pieces_no _ _ h1]; simp only [List.map_cons, List.map_nil, t0]
      · intro x hx
        simp only [List.mem_cons, List.not_mem_nil, or_false] at hx
        rcases hx with rfl | rfl
        · exact Nat.le_trans (ext_le _ _ _ (Nat.le_of_lt hm0)) z0
        · exact z1
  · skip
    refine (gsp_4_0 _ w hs hN (step_no _ h0)).mono ?_
    rintro e w' ⟨rfl, rfl⟩
    refine ⟨[s0], 4, _, rfl, rfl, by simp, ?_, ?_, ?_⟩
    · intro j x hx
      match j, hx with
      | 0, hx => simp at hx; subst hx; rfl
      | (j + 1), hx => simp at hx
    · rw [hr]
      rw [Ad.pieces_no _ _ h0]; simp only [List.map_cons, List.map_nil]
    · intro x hx
      simp only [List.mem_cons, List.not_mem_nil, or_false] at hx
      subst hx; exact Nat.le_refl _

theorem gsp_any (s : ByteArray) (w : World) (hs : s.size ≤ 140737488355328) :
    Calls Tryd.prog 41 #[.string s, .string ⟨#[46]⟩, .int .i64 0, .int .i64 4] w (Split s w) := by
  have h : s.size = 0 ∨ s.size = 1 ∨ s.size = 2 ∨ 3 ≤ s.size := by omega
  rcases h with h | h | h | h
  · exact gsp_1 s w hs (by omega)
  · exact gsp_2 s w hs (by omega)
  · exact gsp_3 s w hs (by omega)
  · exact gsp_4 s w hs (by omega)
set_option maxHeartbeats 400000 in
theorem split_any (s : ByteArray) (w : World) (hs : s.size ≤ 140737488355328) :
    Calls Tryd.prog 32 #[.string s, .string ⟨#[46]⟩, .int .i64 4] w (Split s w) := by
  go_enter Tryd.func32, Tryd.ntmps32
  go_wp2_with fail
  refine (gsp_any s w hs).mono ?_
  rintro e w' ⟨xs, c, arr, rfl, rfl, h⟩
  go_wp2_with fail
  go_ret
  exact ⟨xs, c, arr, rfl, rfl, h⟩
end Go.Proofs.YtnnhkjjnolhaoaaDoor
