/- The law on deeds, where the room is refused. -/
import Derived.Test.YtmmaglhilghofaaAnTwo
namespace Go.Proofs.Ytmmaglhilghofaa
open Go.ChangeShapes Go.WideShapes Go.ChangeAt Go.RowKit Go.Shelf An Sp
attribute [local go_sem] Oper.semAt_some

set_option maxRecDepth 100000 in
set_option maxHeartbeats 1000000 in
theorem plays_bad11 (a0 R a1 : Int) (a : Option Addr) (len cap : Nat) (h1 : 60 < a0) (h2 : a0 ≤ 65536) (h3 : a0.tmod 61 = R) (q : R < 1) (w : World) :
    Calls Try.prog 3 #[.int .i64 a0, .int .i64 a1, .slice a len cap] w fun e w' => e = .returned (.bool true) ∧ Below w.heap.size w w' := by
  have hnew := fun u => new_bad R a1 (.inl q) u
  have hrnew := fun u => rnew_bad R a1 (.inl q) u
  clear q 
  refine (callsIn_wide (n := 0)).1 ?_
  refine callsIn_of_wp_marks Try.func3 rfl trivial ?_ rfl
  simp only [Try.ntmps3, List.size_toArray, List.length_cons, List.length_nil, Nat.reduceAdd, Nat.reduceSub, Array.replicate_succ, Array.replicate_zero, List.push_toArray, List.append_toArray, List.nil_append, List.cons_append]
  refine wpIn_wide.2 ?_
  go_wp2_with fail
  refine (examples_any _).mono ?_
  rintro e w1 ⟨rfl, hb1⟩
  have HX : Shut (Row w1 w.heap.size [.int .i64 a0]) := ⟨(row_alloc.on' ((Below.refl _ _).alloc (Nat.le_refl _) _)).on' hb1⟩
  have HY : Shut (Row w1 (w.heap.size + 1) [.bool false]) := ⟨by
    have h := row_alloc (w := w.alloc (.cells #[.int .i64 a0] 3)) (x := .bool false) (t := 4)
    rw [World.size_alloc] at h
    exact h.on' hb1⟩
  have HW : Shut (Below w.heap.size w w1) := ⟨Below.then (((Below.refl _ w).alloc (Nat.le_refl _) (.cells #[.int .i64 a0] 3)).alloc (by simp) (.cells #[.bool false] 4)) hb1⟩
  clear hb1
  have cx := HX.out.cell 0 _ rfl
  have gx := HX.out.free 0
  have HX2 : Shut (Row (w1.setCell ⟨w.heap.size, 0, none⟩ (.int .i64 R)) w.heap.size [.int .i64 R]) := ⟨HX.out.set 0 (.int .i64 R)⟩
  have HY2 : Shut (Row (w1.setCell ⟨w.heap.size, 0, none⟩ (.int .i64 R)) (w.heap.size + 1) [.bool false]) := ⟨HY.out.other (by omega) 0 _⟩
  have HW2 : Shut (Below w.heap.size w (w1.setCell ⟨w.heap.size, 0, none⟩ (.int .i64 R))) := ⟨HW.out.setCell (p := ⟨w.heap.size, 0, none⟩) (Nat.le_refl _) _⟩
  clear HX HY HW
  go_wp2_with fail
  obtain ⟨W, hW⟩ : ∃ W, w1.setCell ⟨w.heap.size, 0, none⟩ (.int .i64 R) = W := ⟨_, rfl⟩
  rw [hW] at HX2 HY2 HW2 ⊢
  clear hW cx gx
  have cx := HX2.out.cell 0 _ rfl
  have cy := HY2.out.cell 0 _ rfl
  have gy := HY2.out.free 0
  have lx := HX2.out.lt
  have ly := HY2.out.lt
  go_wp2_with fail
  refine (hnew _).mono ?_
  rintro e w2 ⟨rfl, hw2⟩
  obtain rfl := hw2.symm
  clear hw2
  go_wp2_with fail
  refine (hrnew _).mono ?_
  rintro e w2 ⟨rfl, hw2⟩
  obtain rfl := hw2.symm
  clear hw2
  go_wp2_with fail
  have hYr := (HY2.out.set 0 (.bool true)).on' ((Below.refl _ _).alloc (Nat.le_refl _) (.cells #[.pointer none] 28))
  have hbl : Below w.heap.size w (W.setCell ⟨w.heap.size + 1, 0, none⟩ (.bool true)) := HW2.out.setCell (p := ⟨w.heap.size + 1, 0, none⟩) (by simp) _
  exact ⟨_, results_cell rfl _ _ _ _ rfl (load_bool (hYr.cell 0 _ rfl)), rfl, hbl.alloc hbl.size _⟩
set_option maxRecDepth 100000 in
set_option maxHeartbeats 1000000 in
theorem plays_bad13 (a0 R a1 : Int) (a : Option Addr) (len cap : Nat) (h1 : 60 < a0) (h2 : a0 ≤ 65536) (h3 : a0.tmod 61 = R) (q1 : ¬ R < 1) (q2 : ¬ 65536 < R) (q : a1 < 1) (w : World) :
    Calls Try.prog 3 #[.int .i64 a0, .int .i64 a1, .slice a len cap] w fun e w' => e = .returned (.bool true) ∧ Below w.heap.size w w' := by
  have hnew := fun u => new_bad R a1 (.inr (.inr (.inl ⟨q1, q2, q⟩))) u
  have hrnew := fun u => rnew_bad R a1 (.inr (.inr (.inl ⟨q1, q2, q⟩))) u
  clear q q1 q2
  refine (callsIn_wide (n := 0)).1 ?_
  refine callsIn_of_wp_marks Try.func3 rfl trivial ?_ rfl
  simp only [Try.ntmps3, List.size_toArray, List.length_cons, List.length_nil, Nat.reduceAdd, Nat.reduceSub, Array.replicate_succ, Array.replicate_zero, List.push_toArray, List.append_toArray, List.nil_append, List.cons_append]
  refine wpIn_wide.2 ?_
  go_wp2_with fail
  refine (examples_any _).mono ?_
  rintro e w1 ⟨rfl, hb1⟩
  have HX : Shut (Row w1 w.heap.size [.int .i64 a0]) := ⟨(row_alloc.on' ((Below.refl _ _).alloc (Nat.le_refl _) _)).on' hb1⟩
  have HY : Shut (Row w1 (w.heap.size + 1) [.bool false]) := ⟨by
    have h := row_alloc (w := w.alloc (.cells #[.int .i64 a0] 3)) (x := .bool false) (t := 4)
    rw [World.size_alloc] at h
    exact h.on' hb1⟩
  have HW : Shut (Below w.heap.size w w1) := ⟨Below.then (((Below.refl _ w).alloc (Nat.le_refl _) (.cells #[.int .i64 a0] 3)).alloc (by simp) (.cells #[.bool false] 4)) hb1⟩
  clear hb1
  have cx := HX.out.cell 0 _ rfl
  have gx := HX.out.free 0
  have HX2 : Shut (Row (w1.setCell ⟨w.heap.size, 0, none⟩ (.int .i64 R)) w.heap.size [.int .i64 R]) := ⟨HX.out.set 0 (.int .i64 R)⟩
  have HY2 : Shut (Row (w1.setCell ⟨w.heap.size, 0, none⟩ (.int .i64 R)) (w.heap.size + 1) [.bool false]) := ⟨HY.out.other (by omega) 0 _⟩
  have HW2 : Shut (Below w.heap.size w (w1.setCell ⟨w.heap.size, 0, none⟩ (.int .i64 R))) := ⟨HW.out.setCell (p := ⟨w.heap.size, 0, none⟩) (Nat.le_refl _) _⟩
  clear HX HY HW
  go_wp2_with fail
  obtain ⟨W, hW⟩ : ∃ W, w1.setCell ⟨w.heap.size, 0, none⟩ (.int .i64 R) = W := ⟨_, rfl⟩
  rw [hW] at HX2 HY2 HW2 ⊢
  clear hW cx gx
  have cx := HX2.out.cell 0 _ rfl
  have cy := HY2.out.cell 0 _ rfl
  have gy := HY2.out.free 0
  have lx := HX2.out.lt
  have ly := HY2.out.lt
  go_wp2_with fail
  refine (hnew _).mono ?_
  rintro e w2 ⟨rfl, hw2⟩
  obtain rfl := hw2.symm
  clear hw2
  go_wp2_with fail
  refine (hrnew _).mono ?_
  rintro e w2 ⟨rfl, hw2⟩
  obtain rfl := hw2.symm
  clear hw2
  go_wp2_with fail
  have hYr := (HY2.out.set 0 (.bool true)).on' ((Below.refl _ _).alloc (Nat.le_refl _) (.cells #[.pointer none] 28))
  have hbl : Below w.heap.size w (W.setCell ⟨w.heap.size + 1, 0, none⟩ (.bool true)) := HW2.out.setCell (p := ⟨w.heap.size + 1, 0, none⟩) (by simp) _
  exact ⟨_, results_cell rfl _ _ _ _ rfl (load_bool (hYr.cell 0 _ rfl)), rfl, hbl.alloc hbl.size _⟩
set_option maxRecDepth 100000 in
set_option maxHeartbeats 1000000 in
theorem plays_bad14 (a0 R a1 : Int) (a : Option Addr) (len cap : Nat) (h1 : 60 < a0) (h2 : a0 ≤ 65536) (h3 : a0.tmod 61 = R) (q1 : ¬ R < 1) (q2 : ¬ 65536 < R) (q3 : ¬ a1 < 1) (q : R < a1) (w : World) :
    Calls Try.prog 3 #[.int .i64 a0, .int .i64 a1, .slice a len cap] w fun e w' => e = .returned (.bool true) ∧ Below w.heap.size w w' := by
  have hnew := fun u => new_bad R a1 (.inr (.inr (.inr ⟨q1, q2, q3, q⟩))) u
  have hrnew := fun u => rnew_bad R a1 (.inr (.inr (.inr ⟨q1, q2, q3, q⟩))) u
  clear q q1 q2 q3
  refine (callsIn_wide (n := 0)).1 ?_
  refine callsIn_of_wp_marks Try.func3 rfl trivial ?_ rfl
  simp only [Try.ntmps3, List.size_toArray, List.length_cons, List.length_nil, Nat.reduceAdd, Nat.reduceSub, Array.replicate_succ, Array.replicate_zero, List.push_toArray, List.append_toArray, List.nil_append, List.cons_append]
  refine wpIn_wide.2 ?_
  go_wp2_with fail
  refine (examples_any _).mono ?_
  rintro e w1 ⟨rfl, hb1⟩
  have HX : Shut (Row w1 w.heap.size [.int .i64 a0]) := ⟨(row_alloc.on' ((Below.refl _ _).alloc (Nat.le_refl _) _)).on' hb1⟩
  have HY : Shut (Row w1 (w.heap.size + 1) [.bool false]) := ⟨by
    have h := row_alloc (w := w.alloc (.cells #[.int .i64 a0] 3)) (x := .bool false) (t := 4)
    rw [World.size_alloc] at h
    exact h.on' hb1⟩
  have HW : Shut (Below w.heap.size w w1) := ⟨Below.then (((Below.refl _ w).alloc (Nat.le_refl _) (.cells #[.int .i64 a0] 3)).alloc (by simp) (.cells #[.bool false] 4)) hb1⟩
  clear hb1
  have cx := HX.out.cell 0 _ rfl
  have gx := HX.out.free 0
  have HX2 : Shut (Row (w1.setCell ⟨w.heap.size, 0, none⟩ (.int .i64 R)) w.heap.size [.int .i64 R]) := ⟨HX.out.set 0 (.int .i64 R)⟩
  have HY2 : Shut (Row (w1.setCell ⟨w.heap.size, 0, none⟩ (.int .i64 R)) (w.heap.size + 1) [.bool false]) := ⟨HY.out.other (by omega) 0 _⟩
  have HW2 : Shut (Below w.heap.size w (w1.setCell ⟨w.heap.size, 0, none⟩ (.int .i64 R))) := ⟨HW.out.setCell (p := ⟨w.heap.size, 0, none⟩) (Nat.le_refl _) _⟩
  clear HX HY HW
  go_wp2_with fail
  obtain ⟨W, hW⟩ : ∃ W, w1.setCell ⟨w.heap.size, 0, none⟩ (.int .i64 R) = W := ⟨_, rfl⟩
  rw [hW] at HX2 HY2 HW2 ⊢
  clear hW cx gx
  have cx := HX2.out.cell 0 _ rfl
  have cy := HY2.out.cell 0 _ rfl
  have gy := HY2.out.free 0
  have lx := HX2.out.lt
  have ly := HY2.out.lt
  go_wp2_with fail
  refine (hnew _).mono ?_
  rintro e w2 ⟨rfl, hw2⟩
  obtain rfl := hw2.symm
  clear hw2
  go_wp2_with fail
  refine (hrnew _).mono ?_
  rintro e w2 ⟨rfl, hw2⟩
  obtain rfl := hw2.symm
  clear hw2
  go_wp2_with fail
  have hYr := (HY2.out.set 0 (.bool true)).on' ((Below.refl _ _).alloc (Nat.le_refl _) (.cells #[.pointer none] 28))
  have hbl : Below w.heap.size w (W.setCell ⟨w.heap.size + 1, 0, none⟩ (.bool true)) := HW2.out.setCell (p := ⟨w.heap.size + 1, 0, none⟩) (by simp) _
  exact ⟨_, results_cell rfl _ _ _ _ rfl (load_bool (hYr.cell 0 _ rfl)), rfl, hbl.alloc hbl.size _⟩
set_option maxRecDepth 100000 in
set_option maxHeartbeats 1000000 in
theorem plays_bad21 (R a1 : Int) (a : Option Addr) (len cap : Nat) (h1 : ¬ 60 < R) (q : R < 1) (w : World) :
    Calls Try.prog 3 #[.int .i64 R, .int .i64 a1, .slice a len cap] w fun e w' => e = .returned (.bool true) ∧ Below w.heap.size w w' := by
  have hnew := fun u => new_bad R a1 (.inl q) u
  have hrnew := fun u => rnew_bad R a1 (.inl q) u
  clear q 
  refine (callsIn_wide (n := 0)).1 ?_
  refine callsIn_of_wp_marks Try.func3 rfl trivial ?_ rfl
  simp only [Try.ntmps3, List.size_toArray, List.length_cons, List.length_nil, Nat.reduceAdd, Nat.reduceSub, Array.replicate_succ, Array.replicate_zero, List.push_toArray, List.append_toArray, List.nil_append, List.cons_append]
  refine wpIn_wide.2 ?_
  go_wp2_with fail
  refine (examples_any _).mono ?_
  rintro e w1 ⟨rfl, hb1⟩
  have HX : Shut (Row w1 w.heap.size [.int .i64 R]) := ⟨(row_alloc.on' ((Below.refl _ _).alloc (Nat.le_refl _) _)).on' hb1⟩
  have HY : Shut (Row w1 (w.heap.size + 1) [.bool false]) := ⟨by
    have h := row_alloc (w := w.alloc (.cells #[.int .i64 R] 3)) (x := .bool false) (t := 4)
    rw [World.size_alloc] at h
    exact h.on' hb1⟩
  have HW : Shut (Below w.heap.size w w1) := ⟨Below.then (((Below.refl _ w).alloc (Nat.le_refl _) (.cells #[.int .i64 R] 3)).alloc (by simp) (.cells #[.bool false] 4)) hb1⟩
  clear hb1
  have cx := HX.out.cell 0 _ rfl
  have HX2 := HX
  have HY2 := HY
  have HW2 := HW
  clear HX HY HW
  go_wp2_with fail
  obtain ⟨W, hW⟩ : ∃ W, w1 = W := ⟨_, rfl⟩
  rw [hW] at HX2 HY2 HW2 ⊢
  clear hW cx
  have cx := HX2.out.cell 0 _ rfl
  have cy := HY2.out.cell 0 _ rfl
  have gy := HY2.out.free 0
  have lx := HX2.out.lt
  have ly := HY2.out.lt
  go_wp2_with fail
  refine (hnew _).mono ?_
  rintro e w2 ⟨rfl, hw2⟩
  obtain rfl := hw2.symm
  clear hw2
  go_wp2_with fail
  refine (hrnew _).mono ?_
  rintro e w2 ⟨rfl, hw2⟩
  obtain rfl := hw2.symm
  clear hw2
  go_wp2_with fail
  have hYr := (HY2.out.set 0 (.bool true)).on' ((Below.refl _ _).alloc (Nat.le_refl _) (.cells #[.pointer none] 28))
  have hbl : Below w.heap.size w (W.setCell ⟨w.heap.size + 1, 0, none⟩ (.bool true)) := HW2.out.setCell (p := ⟨w.heap.size + 1, 0, none⟩) (by simp) _
  exact ⟨_, results_cell rfl _ _ _ _ rfl (load_bool (hYr.cell 0 _ rfl)), rfl, hbl.alloc hbl.size _⟩
set_option maxRecDepth 100000 in
set_option maxHeartbeats 1000000 in
theorem plays_bad23 (R a1 : Int) (a : Option Addr) (len cap : Nat) (h1 : ¬ 60 < R) (q1 : ¬ R < 1) (q2 : ¬ 65536 < R) (q : a1 < 1) (w : World) :
    Calls Try.prog 3 #[.int .i64 R, .int .i64 a1, .slice a len cap] w fun e w' => e = .returned (.bool true) ∧ Below w.heap.size w w' := by
  have hnew := fun u => new_bad R a1 (.inr (.inr (.inl ⟨q1, q2, q⟩))) u
  have hrnew := fun u => rnew_bad R a1 (.inr (.inr (.inl ⟨q1, q2, q⟩))) u
  clear q q1 q2
  refine (callsIn_wide (n := 0)).1 ?_
  refine callsIn_of_wp_marks Try.func3 rfl trivial ?_ rfl
  simp only [Try.ntmps3, List.size_toArray, List.length_cons, List.length_nil, Nat.reduceAdd, Nat.reduceSub, Array.replicate_succ, Array.replicate_zero, List.push_toArray, List.append_toArray, List.nil_append, List.cons_append]
  refine wpIn_wide.2 ?_
  go_wp2_with fail
  refine (examples_any _).mono ?_
  rintro e w1 ⟨rfl, hb1⟩
  have HX : Shut (Row w1 w.heap.size [.int .i64 R]) := ⟨(row_alloc.on' ((Below.refl _ _).alloc (Nat.le_refl _) _)).on' hb1⟩
  have HY : Shut (Row w1 (w.heap.size + 1) [.bool false]) := ⟨by
    have h := row_alloc (w := w.alloc (.cells #[.int .i64 R] 3)) (x := .bool false) (t := 4)
    rw [World.size_alloc] at h
    exact h.on' hb1⟩
  have HW : Shut (Below w.heap.size w w1) := ⟨Below.then (((Below.refl _ w).alloc (Nat.le_refl _) (.cells #[.int .i64 R] 3)).alloc (by simp) (.cells #[.bool false] 4)) hb1⟩
  clear hb1
  have cx := HX.out.cell 0 _ rfl
  have HX2 := HX
  have HY2 := HY
  have HW2 := HW
  clear HX HY HW
  go_wp2_with fail
  obtain ⟨W, hW⟩ : ∃ W, w1 = W := ⟨_, rfl⟩
  rw [hW] at HX2 HY2 HW2 ⊢
  clear hW cx
  have cx := HX2.out.cell 0 _ rfl
  have cy := HY2.out.cell 0 _ rfl
  have gy := HY2.out.free 0
  have lx := HX2.out.lt
  have ly := HY2.out.lt
  go_wp2_with fail
  refine (hnew _).mono ?_
  rintro e w2 ⟨rfl, hw2⟩
  obtain rfl := hw2.symm
  clear hw2
  go_wp2_with fail
  refine (hrnew _).mono ?_
  rintro e w2 ⟨rfl, hw2⟩
  obtain rfl := hw2.symm
  clear hw2
  go_wp2_with fail
  have hYr := (HY2.out.set 0 (.bool true)).on' ((Below.refl _ _).alloc (Nat.le_refl _) (.cells #[.pointer none] 28))
  have hbl : Below w.heap.size w (W.setCell ⟨w.heap.size + 1, 0, none⟩ (.bool true)) := HW2.out.setCell (p := ⟨w.heap.size + 1, 0, none⟩) (by simp) _
  exact ⟨_, results_cell rfl _ _ _ _ rfl (load_bool (hYr.cell 0 _ rfl)), rfl, hbl.alloc hbl.size _⟩
set_option maxRecDepth 100000 in
set_option maxHeartbeats 1000000 in
theorem plays_bad24 (R a1 : Int) (a : Option Addr) (len cap : Nat) (h1 : ¬ 60 < R) (q1 : ¬ R < 1) (q2 : ¬ 65536 < R) (q3 : ¬ a1 < 1) (q : R < a1) (w : World) :
    Calls Try.prog 3 #[.int .i64 R, .int .i64 a1, .slice a len cap] w fun e w' => e = .returned (.bool true) ∧ Below w.heap.size w w' := by
  have hnew := fun u => new_bad R a1 (.inr (.inr (.inr ⟨q1, q2, q3, q⟩))) u
  have hrnew := fun u => rnew_bad R a1 (.inr (.inr (.inr ⟨q1, q2, q3, q⟩))) u
  clear q q1 q2 q3
  refine (callsIn_wide (n := 0)).1 ?_
  refine callsIn_of_wp_marks Try.func3 rfl trivial ?_ rfl
  simp only [Try.ntmps3, List.size_toArray, List.length_cons, List.length_nil, Nat.reduceAdd, Nat.reduceSub, Array.replicate_succ, Array.replicate_zero, List.push_toArray, List.append_toArray, List.nil_append, List.cons_append]
  refine wpIn_wide.2 ?_
  go_wp2_with fail
  refine (examples_any _).mono ?_
  rintro e w1 ⟨rfl, hb1⟩
  have HX : Shut (Row w1 w.heap.size [.int .i64 R]) := ⟨(row_alloc.on' ((Below.refl _ _).alloc (Nat.le_refl _) _)).on' hb1⟩
  have HY : Shut (Row w1 (w.heap.size + 1) [.bool false]) := ⟨by
    have h := row_alloc (w := w.alloc (.cells #[.int .i64 R] 3)) (x := .bool false) (t := 4)
    rw [World.size_alloc] at h
    exact h.on' hb1⟩
  have HW : Shut (Below w.heap.size w w1) := ⟨Below.then (((Below.refl _ w).alloc (Nat.le_refl _) (.cells #[.int .i64 R] 3)).alloc (by simp) (.cells #[.bool false] 4)) hb1⟩
  clear hb1
  have cx := HX.out.cell 0 _ rfl
  have HX2 := HX
  have HY2 := HY
  have HW2 := HW
  clear HX HY HW
  go_wp2_with fail
  obtain ⟨W, hW⟩ : ∃ W, w1 = W := ⟨_, rfl⟩
  rw [hW] at HX2 HY2 HW2 ⊢
  clear hW cx
  have cx := HX2.out.cell 0 _ rfl
  have cy := HY2.out.cell 0 _ rfl
  have gy := HY2.out.free 0
  have lx := HX2.out.lt
  have ly := HY2.out.lt
  go_wp2_with fail
  refine (hnew _).mono ?_
  rintro e w2 ⟨rfl, hw2⟩
  obtain rfl := hw2.symm
  clear hw2
  go_wp2_with fail
  refine (hrnew _).mono ?_
  rintro e w2 ⟨rfl, hw2⟩
  obtain rfl := hw2.symm
  clear hw2
  go_wp2_with fail
  have hYr := (HY2.out.set 0 (.bool true)).on' ((Below.refl _ _).alloc (Nat.le_refl _) (.cells #[.pointer none] 28))
  have hbl : Below w.heap.size w (W.setCell ⟨w.heap.size + 1, 0, none⟩ (.bool true)) := HW2.out.setCell (p := ⟨w.heap.size + 1, 0, none⟩) (by simp) _
  exact ⟨_, results_cell rfl _ _ _ _ rfl (load_bool (hYr.cell 0 _ rfl)), rfl, hbl.alloc hbl.size _⟩
set_option maxRecDepth 100000 in
set_option maxHeartbeats 1000000 in
theorem plays_bad32 (R a1 : Int) (a : Option Addr) (len cap : Nat) (h1 : 60 < R) (h2 : ¬ R ≤ 65536) (q1 : ¬ R < 1) (q : 65536 < R) (w : World) :
    Calls Try.prog 3 #[.int .i64 R, .int .i64 a1, .slice a len cap] w fun e w' => e = .returned (.bool true) ∧ Below w.heap.size w w' := by
  have hnew := fun u => new_bad R a1 (.inr (.inl ⟨q1, q⟩)) u
  have hrnew := fun u => rnew_bad R a1 (.inr (.inl ⟨q1, q⟩)) u
  clear q q1
  refine (callsIn_wide (n := 0)).1 ?_
  refine callsIn_of_wp_marks Try.func3 rfl trivial ?_ rfl
  simp only [Try.ntmps3, List.size_toArray, List.length_cons, List.length_nil, Nat.reduceAdd, Nat.reduceSub, Array.replicate_succ, Array.replicate_zero, List.push_toArray, List.append_toArray, List.nil_append, List.cons_append]
  refine wpIn_wide.2 ?_
  go_wp2_with fail
  refine (examples_any _).mono ?_
  rintro e w1 ⟨rfl, hb1⟩
  have HX : Shut (Row w1 w.heap.size [.int .i64 R]) := ⟨(row_alloc.on' ((Below.refl _ _).alloc (Nat.le_refl _) _)).on' hb1⟩
  have HY : Shut (Row w1 (w.heap.size + 1) [.bool false]) := ⟨by
    have h := row_alloc (w := w.alloc (.cells #[.int .i64 R] 3)) (x := .bool false) (t := 4)
    rw [World.size_alloc] at h
    exact h.on' hb1⟩
  have HW : Shut (Below w.heap.size w w1) := ⟨Below.then (((Below.refl _ w).alloc (Nat.le_refl _) (.cells #[.int .i64 R] 3)).alloc (by simp) (.cells #[.bool false] 4)) hb1⟩
  clear hb1
  have cx := HX.out.cell 0 _ rfl
  have HX2 := HX
  have HY2 := HY
  have HW2 := HW
  clear HX HY HW
  go_wp2_with fail
  obtain ⟨W, hW⟩ : ∃ W, w1 = W := ⟨_, rfl⟩
  rw [hW] at HX2 HY2 HW2 ⊢
  clear hW cx
  have cx := HX2.out.cell 0 _ rfl
  have cy := HY2.out.cell 0 _ rfl
  have gy := HY2.out.free 0
  have lx := HX2.out.lt
  have ly := HY2.out.lt
  go_wp2_with fail
  refine (hnew _).mono ?_
  rintro e w2 ⟨rfl, hw2⟩
  obtain rfl := hw2.symm
  clear hw2
  go_wp2_with fail
  refine (hrnew _).mono ?_
  rintro e w2 ⟨rfl, hw2⟩
  obtain rfl := hw2.symm
  clear hw2
  go_wp2_with fail
  have hYr := (HY2.out.set 0 (.bool true)).on' ((Below.refl _ _).alloc (Nat.le_refl _) (.cells #[.pointer none] 28))
  have hbl : Below w.heap.size w (W.setCell ⟨w.heap.size + 1, 0, none⟩ (.bool true)) := HW2.out.setCell (p := ⟨w.heap.size + 1, 0, none⟩) (by simp) _
  exact ⟨_, results_cell rfl _ _ _ _ rfl (load_bool (hYr.cell 0 _ rfl)), rfl, hbl.alloc hbl.size _⟩
end Go.Proofs.Ytmmaglhilghofaa
