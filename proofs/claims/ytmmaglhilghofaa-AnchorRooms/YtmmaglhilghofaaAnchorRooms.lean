/- The law AnchorRooms returns true for every room, every number that work and every key, and changes nothing that was there before; no condition but the form's own. -/
import Derived.Test.YtmmaglhilghofaaRows
import Derived.OpenShut
import Derived.ShutString
import Derived.ChangeOld
import Derived.Below
import Derived.SizedLaws
import Derived.Test.YtmmaglhilghofaaAnLoop
namespace Go.Proofs.Ytmmaglhilghofaa.anchorRooms
open Go.ChangeShapes Go.WideShapes Go.ChangeAt Go.RowKit
open Go.ChangeMaps (open_string shut_string)
set_option linter.unusedVariables false
open An Sp Go.Shelf
attribute [local go_sem] Oper.semAt_some
set_option maxRecDepth 100000 in
set_option maxHeartbeats 1000000 in
theorem bad11 (a0 R a1 : Int) (k : B) (h1 : 500 < a0) (h2 : a0 ≤ 65536) (h3 : a0.tmod 500 = R) (q : R < 1) (w : World) :
    Calls Try.prog 6 #[.int .i64 a0, .int .i64 a1, .int .u64 (nn k)] w fun e w' => e = .returned (.bool true) ∧ Below w.heap.size w w' := by
  have hnew := fun u => new_bad R a1 (.inl q) u
  refine (callsIn_wide (n := 0)).1 ?_
  refine callsIn_of_wp_marks Try.func6 rfl trivial ?_ rfl
  simp only [Try.ntmps6, List.size_toArray, List.length_cons, List.length_nil, Nat.reduceAdd, Nat.reduceSub, Array.replicate_succ, Array.replicate_zero, List.push_toArray, List.append_toArray, List.nil_append, List.cons_append]
  refine wpIn_wide.2 ?_
  go_wp2_with fail
  refine (examples_any _).mono ?_
  rintro e w1 ⟨rfl, hb1⟩
  have HY : Shut _ := ⟨row_alloc.on' hb1⟩
  have HW : Shut (Below w.heap.size w w1) := ⟨Below.then ((Below.refl _ w).alloc (Nat.le_refl _) (.cells #[.bool false] 4)) hb1⟩
  clear hb1
  have c := HY.out.cell 0 _ rfl
  have g := HY.out.free 0
  have HG : Shut (w.heap.size < w1.heap.size) := ⟨HY.out.lt⟩
  go_wp2_with fail
  refine (hnew _).mono ?_
  rintro e w2 ⟨rfl, hw2⟩
  obtain rfl := hw2.symm
  clear hw2
  go_wp2_with fail
  refine ⟨_, results_cell rfl _ _ _ _ rfl (load_bool ((HY.out.set 0 (.bool true)).cell 0 _ rfl)), rfl, HW.out.setCell (p := ⟨w.heap.size, 0, none⟩) (Nat.le_refl _) _⟩
set_option maxRecDepth 100000 in
set_option maxHeartbeats 1000000 in
theorem bad13 (a0 R a1 : Int) (k : B) (h1 : 500 < a0) (h2 : a0 ≤ 65536) (h3 : a0.tmod 500 = R) (q1 : ¬ R < 1) (q2 : ¬ 65536 < R) (q : a1 < 1) (w : World) :
    Calls Try.prog 6 #[.int .i64 a0, .int .i64 a1, .int .u64 (nn k)] w fun e w' => e = .returned (.bool true) ∧ Below w.heap.size w w' := by
  have hnew := fun u => new_bad R a1 (.inr (.inr (.inl ⟨q1, q2, q⟩))) u
  refine (callsIn_wide (n := 0)).1 ?_
  refine callsIn_of_wp_marks Try.func6 rfl trivial ?_ rfl
  simp only [Try.ntmps6, List.size_toArray, List.length_cons, List.length_nil, Nat.reduceAdd, Nat.reduceSub, Array.replicate_succ, Array.replicate_zero, List.push_toArray, List.append_toArray, List.nil_append, List.cons_append]
  refine wpIn_wide.2 ?_
  go_wp2_with fail
  refine (examples_any _).mono ?_
  rintro e w1 ⟨rfl, hb1⟩
  have HY : Shut _ := ⟨row_alloc.on' hb1⟩
  have HW : Shut (Below w.heap.size w w1) := ⟨Below.then ((Below.refl _ w).alloc (Nat.le_refl _) (.cells #[.bool false] 4)) hb1⟩
  clear hb1
  have c := HY.out.cell 0 _ rfl
  have g := HY.out.free 0
  have HG : Shut (w.heap.size < w1.heap.size) := ⟨HY.out.lt⟩
  go_wp2_with fail
  refine (hnew _).mono ?_
  rintro e w2 ⟨rfl, hw2⟩
  obtain rfl := hw2.symm
  clear hw2
  go_wp2_with fail
  refine ⟨_, results_cell rfl _ _ _ _ rfl (load_bool ((HY.out.set 0 (.bool true)).cell 0 _ rfl)), rfl, HW.out.setCell (p := ⟨w.heap.size, 0, none⟩) (Nat.le_refl _) _⟩
set_option maxRecDepth 100000 in
set_option maxHeartbeats 1000000 in
theorem bad14 (a0 R a1 : Int) (k : B) (h1 : 500 < a0) (h2 : a0 ≤ 65536) (h3 : a0.tmod 500 = R) (q1 : ¬ R < 1) (q2 : ¬ 65536 < R) (q3 : ¬ a1 < 1) (q : R < a1) (w : World) :
    Calls Try.prog 6 #[.int .i64 a0, .int .i64 a1, .int .u64 (nn k)] w fun e w' => e = .returned (.bool true) ∧ Below w.heap.size w w' := by
  have hnew := fun u => new_bad R a1 (.inr (.inr (.inr ⟨q1, q2, q3, q⟩))) u
  refine (callsIn_wide (n := 0)).1 ?_
  refine callsIn_of_wp_marks Try.func6 rfl trivial ?_ rfl
  simp only [Try.ntmps6, List.size_toArray, List.length_cons, List.length_nil, Nat.reduceAdd, Nat.reduceSub, Array.replicate_succ, Array.replicate_zero, List.push_toArray, List.append_toArray, List.nil_append, List.cons_append]
  refine wpIn_wide.2 ?_
  go_wp2_with fail
  refine (examples_any _).mono ?_
  rintro e w1 ⟨rfl, hb1⟩
  have HY : Shut _ := ⟨row_alloc.on' hb1⟩
  have HW : Shut (Below w.heap.size w w1) := ⟨Below.then ((Below.refl _ w).alloc (Nat.le_refl _) (.cells #[.bool false] 4)) hb1⟩
  clear hb1
  have c := HY.out.cell 0 _ rfl
  have g := HY.out.free 0
  have HG : Shut (w.heap.size < w1.heap.size) := ⟨HY.out.lt⟩
  go_wp2_with fail
  refine (hnew _).mono ?_
  rintro e w2 ⟨rfl, hw2⟩
  obtain rfl := hw2.symm
  clear hw2
  go_wp2_with fail
  refine ⟨_, results_cell rfl _ _ _ _ rfl (load_bool ((HY.out.set 0 (.bool true)).cell 0 _ rfl)), rfl, HW.out.setCell (p := ⟨w.heap.size, 0, none⟩) (Nat.le_refl _) _⟩
set_option maxRecDepth 100000 in
set_option maxHeartbeats 1000000 in
theorem bad21 (R a1 : Int) (k : B) (h1 : ¬ 500 < R) (q : R < 1) (w : World) :
    Calls Try.prog 6 #[.int .i64 R, .int .i64 a1, .int .u64 (nn k)] w fun e w' => e = .returned (.bool true) ∧ Below w.heap.size w w' := by
  have hnew := fun u => new_bad R a1 (.inl q) u
  refine (callsIn_wide (n := 0)).1 ?_
  refine callsIn_of_wp_marks Try.func6 rfl trivial ?_ rfl
  simp only [Try.ntmps6, List.size_toArray, List.length_cons, List.length_nil, Nat.reduceAdd, Nat.reduceSub, Array.replicate_succ, Array.replicate_zero, List.push_toArray, List.append_toArray, List.nil_append, List.cons_append]
  refine wpIn_wide.2 ?_
  go_wp2_with fail
  refine (examples_any _).mono ?_
  rintro e w1 ⟨rfl, hb1⟩
  have HY : Shut _ := ⟨row_alloc.on' hb1⟩
  have HW : Shut (Below w.heap.size w w1) := ⟨Below.then ((Below.refl _ w).alloc (Nat.le_refl _) (.cells #[.bool false] 4)) hb1⟩
  clear hb1
  have c := HY.out.cell 0 _ rfl
  have g := HY.out.free 0
  have HG : Shut (w.heap.size < w1.heap.size) := ⟨HY.out.lt⟩
  go_wp2_with fail
  refine (hnew _).mono ?_
  rintro e w2 ⟨rfl, hw2⟩
  obtain rfl := hw2.symm
  clear hw2
  go_wp2_with fail
  refine ⟨_, results_cell rfl _ _ _ _ rfl (load_bool ((HY.out.set 0 (.bool true)).cell 0 _ rfl)), rfl, HW.out.setCell (p := ⟨w.heap.size, 0, none⟩) (Nat.le_refl _) _⟩
set_option maxRecDepth 100000 in
set_option maxHeartbeats 1000000 in
theorem bad23 (R a1 : Int) (k : B) (h1 : ¬ 500 < R) (q1 : ¬ R < 1) (q2 : ¬ 65536 < R) (q : a1 < 1) (w : World) :
    Calls Try.prog 6 #[.int .i64 R, .int .i64 a1, .int .u64 (nn k)] w fun e w' => e = .returned (.bool true) ∧ Below w.heap.size w w' := by
  have hnew := fun u => new_bad R a1 (.inr (.inr (.inl ⟨q1, q2, q⟩))) u
  refine (callsIn_wide (n := 0)).1 ?_
  refine callsIn_of_wp_marks Try.func6 rfl trivial ?_ rfl
  simp only [Try.ntmps6, List.size_toArray, List.length_cons, List.length_nil, Nat.reduceAdd, Nat.reduceSub, Array.replicate_succ, Array.replicate_zero, List.push_toArray, List.append_toArray, List.nil_append, List.cons_append]
  refine wpIn_wide.2 ?_
  go_wp2_with fail
  refine (examples_any _).mono ?_
  rintro e w1 ⟨rfl, hb1⟩
  have HY : Shut _ := ⟨row_alloc.on' hb1⟩
  have HW : Shut (Below w.heap.size w w1) := ⟨Below.then ((Below.refl _ w).alloc (Nat.le_refl _) (.cells #[.bool false] 4)) hb1⟩
  clear hb1
  have c := HY.out.cell 0 _ rfl
  have g := HY.out.free 0
  have HG : Shut (w.heap.size < w1.heap.size) := ⟨HY.out.lt⟩
  go_wp2_with fail
  refine (hnew _).mono ?_
  rintro e w2 ⟨rfl, hw2⟩
  obtain rfl := hw2.symm
  clear hw2
  go_wp2_with fail
  refine ⟨_, results_cell rfl _ _ _ _ rfl (load_bool ((HY.out.set 0 (.bool true)).cell 0 _ rfl)), rfl, HW.out.setCell (p := ⟨w.heap.size, 0, none⟩) (Nat.le_refl _) _⟩
set_option maxRecDepth 100000 in
set_option maxHeartbeats 1000000 in
theorem bad24 (R a1 : Int) (k : B) (h1 : ¬ 500 < R) (q1 : ¬ R < 1) (q2 : ¬ 65536 < R) (q3 : ¬ a1 < 1) (q : R < a1) (w : World) :
    Calls Try.prog 6 #[.int .i64 R, .int .i64 a1, .int .u64 (nn k)] w fun e w' => e = .returned (.bool true) ∧ Below w.heap.size w w' := by
  have hnew := fun u => new_bad R a1 (.inr (.inr (.inr ⟨q1, q2, q3, q⟩))) u
  refine (callsIn_wide (n := 0)).1 ?_
  refine callsIn_of_wp_marks Try.func6 rfl trivial ?_ rfl
  simp only [Try.ntmps6, List.size_toArray, List.length_cons, List.length_nil, Nat.reduceAdd, Nat.reduceSub, Array.replicate_succ, Array.replicate_zero, List.push_toArray, List.append_toArray, List.nil_append, List.cons_append]
  refine wpIn_wide.2 ?_
  go_wp2_with fail
  refine (examples_any _).mono ?_
  rintro e w1 ⟨rfl, hb1⟩
  have HY : Shut _ := ⟨row_alloc.on' hb1⟩
  have HW : Shut (Below w.heap.size w w1) := ⟨Below.then ((Below.refl _ w).alloc (Nat.le_refl _) (.cells #[.bool false] 4)) hb1⟩
  clear hb1
  have c := HY.out.cell 0 _ rfl
  have g := HY.out.free 0
  have HG : Shut (w.heap.size < w1.heap.size) := ⟨HY.out.lt⟩
  go_wp2_with fail
  refine (hnew _).mono ?_
  rintro e w2 ⟨rfl, hw2⟩
  obtain rfl := hw2.symm
  clear hw2
  go_wp2_with fail
  refine ⟨_, results_cell rfl _ _ _ _ rfl (load_bool ((HY.out.set 0 (.bool true)).cell 0 _ rfl)), rfl, HW.out.setCell (p := ⟨w.heap.size, 0, none⟩) (Nat.le_refl _) _⟩
set_option maxRecDepth 100000 in
set_option maxHeartbeats 1000000 in
theorem bad32 (R a1 : Int) (k : B) (h1 : 500 < R) (h2 : ¬ R ≤ 65536) (q1 : ¬ R < 1) (q : 65536 < R) (w : World) :
    Calls Try.prog 6 #[.int .i64 R, .int .i64 a1, .int .u64 (nn k)] w fun e w' => e = .returned (.bool true) ∧ Below w.heap.size w w' := by
  have hnew := fun u => new_bad R a1 (.inr (.inl ⟨q1, q⟩)) u
  refine (callsIn_wide (n := 0)).1 ?_
  refine callsIn_of_wp_marks Try.func6 rfl trivial ?_ rfl
  simp only [Try.ntmps6, List.size_toArray, List.length_cons, List.length_nil, Nat.reduceAdd, Nat.reduceSub, Array.replicate_succ, Array.replicate_zero, List.push_toArray, List.append_toArray, List.nil_append, List.cons_append]
  refine wpIn_wide.2 ?_
  go_wp2_with fail
  refine (examples_any _).mono ?_
  rintro e w1 ⟨rfl, hb1⟩
  have HY : Shut _ := ⟨row_alloc.on' hb1⟩
  have HW : Shut (Below w.heap.size w w1) := ⟨Below.then ((Below.refl _ w).alloc (Nat.le_refl _) (.cells #[.bool false] 4)) hb1⟩
  clear hb1
  have c := HY.out.cell 0 _ rfl
  have g := HY.out.free 0
  have HG : Shut (w.heap.size < w1.heap.size) := ⟨HY.out.lt⟩
  go_wp2_with fail
  refine (hnew _).mono ?_
  rintro e w2 ⟨rfl, hw2⟩
  obtain rfl := hw2.symm
  clear hw2
  go_wp2_with fail
  refine ⟨_, results_cell rfl _ _ _ _ rfl (load_bool ((HY.out.set 0 (.bool true)).cell 0 _ rfl)), rfl, HW.out.setCell (p := ⟨w.heap.size, 0, none⟩) (Nat.le_refl _) _⟩
set_option maxRecDepth 100000 in
set_option maxHeartbeats 4000000 in
theorem good1 (a0 : Int) (r n : Nat) (k : B) (h1 : 500 < a0) (h2 : a0 ≤ 65536) (h3 : a0.tmod 500 = (r : Int)) (hr : r ≤ 500) (hn0 : 1 ≤ n) (hnr : n ≤ r) (w : World) :
    Calls Try.prog 6 #[.int .i64 a0, .int .i64 (n : Int), .int .u64 (nn k)] w fun e w' => e = .returned (.bool true) ∧ Below w.heap.size w w' := by
  have hnew := fun u => new_made r n hn0 hnr (by omega) u
  have HS : Shut (r ≤ 500 ∧ 1 ≤ n ∧ n ≤ r) := ⟨hr, hn0, hnr⟩
  have q1 : ¬ (r : Int) < 1 := by omega
  have q2 : ¬ (65536 : Int) < r := by omega
  have q3 : ¬ (n : Int) < 1 := by omega
  have q4 : ¬ (r : Int) < n := by omega
  clear hr hn0 hnr
  refine (callsIn_wide (n := 0)).1 ?_
  refine callsIn_of_wp_marks Try.func6 rfl trivial ?_ rfl
  simp only [Try.ntmps6, List.size_toArray, List.length_cons, List.length_nil, Nat.reduceAdd, Nat.reduceSub, Array.replicate_succ, Array.replicate_zero, List.push_toArray, List.append_toArray, List.nil_append, List.cons_append]
  refine wpIn_wide.2 ?_
  go_wp2_with fail
  refine (examples_any _).mono ?_
  rintro e w1 ⟨rfl, hb1⟩
  have HY : Shut _ := ⟨row_alloc.on' hb1⟩
  have HW : Shut (Below w.heap.size w w1) := ⟨Below.then ((Below.refl _ w).alloc (Nat.le_refl _) (.cells #[.bool false] 4)) hb1⟩
  clear hb1
  have c := HY.out.cell 0 _ rfl
  have g := HY.out.free 0
  have HG : Shut (w.heap.size < w1.heap.size) := ⟨HY.out.lt⟩
  go_wp2_with fail
  refine (hnew _).mono ?_
  rintro e w2 ⟨bk, v, rfl, hA, hb⟩
  have HY2 : Shut _ := ⟨HY.out.on' hb⟩
  have HW2 : Shut _ := ⟨Below.then HW.out hb⟩
  have HA2 : Shut _ := ⟨hA⟩
  have HG2 : Shut (w.heap.size < w2.heap.size ∧ w.heap.size < w1.heap.size) := ⟨HY2.out.lt, HG.out⟩
  clear hA hb hnew c g HY HW HG
  go_wp2_with fail
  refine (working_any _ _).mono ?_
  rintro e w3 ⟨rfl, rfl⟩
  go_wp2_with fail
  have hB3 : Below w2.heap.size w2 ((w2.alloc (.cells #[.int .i64 0] 3)).alloc (.cells #[.pointer (some ⟨bk.p, 0, none⟩)] 24)) := ((Below.refl _ _).alloc (Nat.le_refl _) _).alloc (by simp) _
  obtain ⟨V0, hV0⟩ : ∃ V0, (w2.alloc (.cells #[.int .i64 0] 3)).alloc (.cells #[.pointer (some ⟨bk.p, 0, none⟩)] 24) = V0 := ⟨_, rfl⟩
  have hsz : V0.heap.size = w2.heap.size + 2 := by rw [← hV0]; simp
  have hT : Row V0 w2.heap.size [.int .i64 0] := by rw [← hV0]; exact row_alloc.on' ((Below.refl _ _).alloc (Nat.le_refl _) _)
  have hZ : V0.cell? ⟨w2.heap.size + 1, 0, none⟩ = some (.pointer (some ⟨bk.p, 0, none⟩)) := by rw [← hV0]; simp [go_sem]
  rw [hV0] at hB3 ⊢
  clear hV0
  have hA3 := HA2.out.on hB3
  have hY3 := HY2.out.on' hB3
  have hlt := HG2.out
  have hba : bk.a < w2.heap.size := (HA2.out.lt bk.a (List.mem_append_left _ bk.ma)).2
  have hS := HS.out
  refine wp_working (d := 11) (b := bk) (s := An.start r n) (B := w2.heap.size + 1) rfl (show r ≤ 65536 by omega) hZ hA3.reads (fun k => k ≠ w2.heap.size) (fun k hk => by omega) (by omega)
    (fun k W => Row W w2.heap.size [.int .i64 ((min k n : Nat) : Int)] ∧ Row W w.heap.size [.bool false] ∧ AnAt hdA w1.heap.size W bk v (An.start r n) ∧ Below w.heap.size w W) (fun _ _ _ => False)
    (fun k W W' h hb => ⟨h.1.on hb (by omega), h.2.1.on hb (by omega), h.2.2.1.of_blocks fun x hx => hb.block x (by have := (hA3.lt x hx).2; omega), h.2.2.2.trans (hb.mono (by omega))⟩) (fun _ _ _ _ h _ => h)
    ⟨by simpa using hT, hY3, hA3, Below.then HW2.out hB3⟩ ?skip ?assign ?body ?done (fun _ _ _ h _ => h.elim)
  case skip =>
    rintro k W hk hz ⟨h1, h2⟩
    have e : min (k + 1) n = min k n := by
      have : n ≤ k := by
        by_cases h : n ≤ k
        · exact h
        · exact absurd ((start_works r n k hS.2.2 hS.2.1).2 (by omega)).2 hz
      omega
    exact ⟨by rw [e]; exact h1, h2⟩
  case assign =>
    intro l' k W K hK
    simp only [roundAct] at hK
    gi_wp2
    simpa using hK
  case body =>
    rintro l' k W hk hz ⟨h1, h2, h3, h4⟩
    have hkn : k < n := (start_works r n k hS.2.2 hS.2.1).1 ⟨hk, hz⟩
    have e : min k n = k := by omega
    have e2 : min (k + 1) n = k + 1 := by omega
    rw [e] at h1
    have c := h1.cell 0 _ rfl
    have g := h1.free 0
    have h5 := h1.set 0 (.int .i64 ((k : Int) + 1))
    have q2' : Row (W.setCell ⟨w2.heap.size, 0, none⟩ (.int .i64 ((k : Int) + 1))) w.heap.size [.bool false] := h2.other (by omega) 0 _
    have q3' : AnAt hdA w1.heap.size (W.setCell ⟨w2.heap.size, 0, none⟩ (.int .i64 ((k : Int) + 1))) bk v (An.start r n) := h3.of_blocks fun x hx => Below.heap_setCell _ _ _ _ (by have := (HA2.out.lt x hx).2; show x ≠ w2.heap.size; omega)
    have q4' : Below w.heap.size w (W.setCell ⟨w2.heap.size, 0, none⟩ (.int .i64 ((k : Int) + 1))) := h4.setCell (p := ⟨w2.heap.size, 0, none⟩) (by show w.heap.size ≤ w2.heap.size; omega) _
    have H : Shut _ := ⟨(⟨q2', q3', q4'⟩ : _ ∧ _ ∧ _)⟩
    clear q2' q3' q4'
    have H5 : Shut _ := ⟨h5⟩
    have hk1 : (k : Int) ≤ 1000000 := by have := hS.1; omega
    have E2 : Shut (min (k + 1) n = k + 1) := ⟨e2⟩
    clear h1 h2 h3 h4 h5 e e2 hz
    simp only [roundAct]
    gi_wp2
    refine ⟨(Keeps.refl _ _).setCell (p := ⟨w2.heap.size, 0, none⟩) (by simp) _, ?_, H.out⟩
    rw [E2.out]
    exact H5.out
  case done =>
    rintro W ⟨h1, h2, h3, h4⟩ hK
    have e : min (An.start r n).r n = n := by show min r n = n; omega
    rw [e] at h1
    have hre : An.Reach r (An.start r n) := reach_start r (r - n) n rfl hS.2.1 hS.2.2
    have hwf := hre.wf
    have hb := bucket_any h3 hwf (show r ≤ 65536 by omega) k
    have hl : Calls Try.prog 16 #[.pointer (some ⟨bk.p, 0, none⟩)] W fun e w' => e = .returned (.int .i64 (n : Int)) ∧ w' = W := len_any h3
    have hr1 := remove_no h3 (n : Int) fun h => by
      have h' : (n : Int).toNat < n := (start_works r n _ hS.2.2 hS.2.1).1 ⟨by have := h.2.1; show (n : Int).toNat < r; have e : (An.start r n).r = r := rfl; rw [e] at this; omega, h.2.2⟩
      omega
    have hr2 := remove_no h3 (-1) fun h => absurd h.1 (by decide)
    have hy := (start_works r n _ hS.2.2 hS.2.1).1 (bucket_works hwf (gmix k))
    obtain ⟨y, hye⟩ : ∃ y, bucket (An.start r n) (gmix k) = y := ⟨_, rfl⟩
    rw [hye] at hb hy
    clear hye
    have hy1 : (y : Int) < n := by omega
    have hy0 : (0 : Int) ≤ y := by omega
    have c := h1.cell 0 _ rfl
    have c2 := h2.cell 0 _ rfl
    have g2 := h2.free 0
    have H6 : Shut _ := ⟨h2.set 0 (.bool true)⟩
    have H7 : Shut (Below w.heap.size w (W.setCell ⟨w.heap.size, 0, none⟩ (.bool true))) := ⟨h4.setCell (p := ⟨w.heap.size, 0, none⟩) (Nat.le_refl _) _⟩
    have HK : Shut ((W.setCell ⟨w.heap.size, 0, none⟩ (.bool true)).heap[w2.heap.size + 2]? = some (.deferred (some []))) := ⟨by rw [← hsz]; exact (Below.heap_setCell _ _ _ _ (by show V0.heap.size ≠ w.heap.size; omega)).trans hK⟩
    have HV : Shut (w.heap.size < V0.heap.size) := ⟨by omega⟩
    clear h1 h2 h3 h4 hK hre hwf hy hS
    go_wp2_with fail
    refine hb.mono ?_
    rintro e' w5 ⟨rfl, hw5⟩
    obtain rfl := hw5.symm
    clear hw5
    go_wp2_with fail
    refine hl.mono ?_
    rintro e' w5 ⟨rfl, hw5⟩
    obtain rfl := hw5.symm
    clear hw5
    go_wp2_with fail
    refine hb.mono ?_
    rintro e' w5 ⟨rfl, hw5⟩
    obtain rfl := hw5.symm
    clear hw5
    go_wp2_with fail
    refine hr1.mono ?_
    rintro e' w5 ⟨rfl, hw5⟩
    obtain rfl := hw5.symm
    clear hw5
    go_wp2_with fail
    refine hr2.mono ?_
    rintro e' w5 ⟨rfl, hw5⟩
    obtain rfl := hw5.symm
    clear hw5
    go_wp2_with fail
    refine ⟨by simp, .inl ⟨_, _, rfl, run_takeDeferred HK.out, ?_⟩⟩
    exact ⟨_, results_cell rfl _ _ _ _ rfl (load_bool (cell_put (H6.out.cell 0 _ rfl) (by have := HV.out; simp; omega))), rfl, below_put H7.out (by have := HV.out; omega) _⟩
set_option maxRecDepth 100000 in
set_option maxHeartbeats 4000000 in
theorem good2 (r n : Nat) (k : B) (h1 : ¬ 500 < (r : Int)) (hr : r ≤ 500) (hn0 : 1 ≤ n) (hnr : n ≤ r) (w : World) :
    Calls Try.prog 6 #[.int .i64 (r : Int), .int .i64 (n : Int), .int .u64 (nn k)] w fun e w' => e = .returned (.bool true) ∧ Below w.heap.size w w' := by
  have hnew := fun u => new_made r n hn0 hnr (by omega) u
  have HS : Shut (r ≤ 500 ∧ 1 ≤ n ∧ n ≤ r) := ⟨hr, hn0, hnr⟩
  have q1 : ¬ (r : Int) < 1 := by omega
  have q2 : ¬ (65536 : Int) < r := by omega
  have q3 : ¬ (n : Int) < 1 := by omega
  have q4 : ¬ (r : Int) < n := by omega
  clear hr hn0 hnr
  refine (callsIn_wide (n := 0)).1 ?_
  refine callsIn_of_wp_marks Try.func6 rfl trivial ?_ rfl
  simp only [Try.ntmps6, List.size_toArray, List.length_cons, List.length_nil, Nat.reduceAdd, Nat.reduceSub, Array.replicate_succ, Array.replicate_zero, List.push_toArray, List.append_toArray, List.nil_append, List.cons_append]
  refine wpIn_wide.2 ?_
  go_wp2_with fail
  refine (examples_any _).mono ?_
  rintro e w1 ⟨rfl, hb1⟩
  have HY : Shut _ := ⟨row_alloc.on' hb1⟩
  have HW : Shut (Below w.heap.size w w1) := ⟨Below.then ((Below.refl _ w).alloc (Nat.le_refl _) (.cells #[.bool false] 4)) hb1⟩
  clear hb1
  have c := HY.out.cell 0 _ rfl
  have g := HY.out.free 0
  have HG : Shut (w.heap.size < w1.heap.size) := ⟨HY.out.lt⟩
  go_wp2_with fail
  refine (hnew _).mono ?_
  rintro e w2 ⟨bk, v, rfl, hA, hb⟩
  have HY2 : Shut _ := ⟨HY.out.on' hb⟩
  have HW2 : Shut _ := ⟨Below.then HW.out hb⟩
  have HA2 : Shut _ := ⟨hA⟩
  have HG2 : Shut (w.heap.size < w2.heap.size ∧ w.heap.size < w1.heap.size) := ⟨HY2.out.lt, HG.out⟩
  clear hA hb hnew c g HY HW HG
  go_wp2_with fail
  refine (working_any _ _).mono ?_
  rintro e w3 ⟨rfl, rfl⟩
  go_wp2_with fail
  have hB3 : Below w2.heap.size w2 ((w2.alloc (.cells #[.int .i64 0] 3)).alloc (.cells #[.pointer (some ⟨bk.p, 0, none⟩)] 24)) := ((Below.refl _ _).alloc (Nat.le_refl _) _).alloc (by simp) _
  obtain ⟨V0, hV0⟩ : ∃ V0, (w2.alloc (.cells #[.int .i64 0] 3)).alloc (.cells #[.pointer (some ⟨bk.p, 0, none⟩)] 24) = V0 := ⟨_, rfl⟩
  have hsz : V0.heap.size = w2.heap.size + 2 := by rw [← hV0]; simp
  have hT : Row V0 w2.heap.size [.int .i64 0] := by rw [← hV0]; exact row_alloc.on' ((Below.refl _ _).alloc (Nat.le_refl _) _)
  have hZ : V0.cell? ⟨w2.heap.size + 1, 0, none⟩ = some (.pointer (some ⟨bk.p, 0, none⟩)) := by rw [← hV0]; simp [go_sem]
  rw [hV0] at hB3 ⊢
  clear hV0
  have hA3 := HA2.out.on hB3
  have hY3 := HY2.out.on' hB3
  have hlt := HG2.out
  have hba : bk.a < w2.heap.size := (HA2.out.lt bk.a (List.mem_append_left _ bk.ma)).2
  have hS := HS.out
  refine wp_working (d := 11) (b := bk) (s := An.start r n) (B := w2.heap.size + 1) rfl (show r ≤ 65536 by omega) hZ hA3.reads (fun k => k ≠ w2.heap.size) (fun k hk => by omega) (by omega)
    (fun k W => Row W w2.heap.size [.int .i64 ((min k n : Nat) : Int)] ∧ Row W w.heap.size [.bool false] ∧ AnAt hdA w1.heap.size W bk v (An.start r n) ∧ Below w.heap.size w W) (fun _ _ _ => False)
    (fun k W W' h hb => ⟨h.1.on hb (by omega), h.2.1.on hb (by omega), h.2.2.1.of_blocks fun x hx => hb.block x (by have := (hA3.lt x hx).2; omega), h.2.2.2.trans (hb.mono (by omega))⟩) (fun _ _ _ _ h _ => h)
    ⟨by simpa using hT, hY3, hA3, Below.then HW2.out hB3⟩ ?skip ?assign ?body ?done (fun _ _ _ h _ => h.elim)
  case skip =>
    rintro k W hk hz ⟨h1, h2⟩
    have e : min (k + 1) n = min k n := by
      have : n ≤ k := by
        by_cases h : n ≤ k
        · exact h
        · exact absurd ((start_works r n k hS.2.2 hS.2.1).2 (by omega)).2 hz
      omega
    exact ⟨by rw [e]; exact h1, h2⟩
  case assign =>
    intro l' k W K hK
    simp only [roundAct] at hK
    gi_wp2
    simpa using hK
  case body =>
    rintro l' k W hk hz ⟨h1, h2, h3, h4⟩
    have hkn : k < n := (start_works r n k hS.2.2 hS.2.1).1 ⟨hk, hz⟩
    have e : min k n = k := by omega
    have e2 : min (k + 1) n = k + 1 := by omega
    rw [e] at h1
    have c := h1.cell 0 _ rfl
    have g := h1.free 0
    have h5 := h1.set 0 (.int .i64 ((k : Int) + 1))
    have q2' : Row (W.setCell ⟨w2.heap.size, 0, none⟩ (.int .i64 ((k : Int) + 1))) w.heap.size [.bool false] := h2.other (by omega) 0 _
    have q3' : AnAt hdA w1.heap.size (W.setCell ⟨w2.heap.size, 0, none⟩ (.int .i64 ((k : Int) + 1))) bk v (An.start r n) := h3.of_blocks fun x hx => Below.heap_setCell _ _ _ _ (by have := (HA2.out.lt x hx).2; show x ≠ w2.heap.size; omega)
    have q4' : Below w.heap.size w (W.setCell ⟨w2.heap.size, 0, none⟩ (.int .i64 ((k : Int) + 1))) := h4.setCell (p := ⟨w2.heap.size, 0, none⟩) (by show w.heap.size ≤ w2.heap.size; omega) _
    have H : Shut _ := ⟨(⟨q2', q3', q4'⟩ : _ ∧ _ ∧ _)⟩
    clear q2' q3' q4'
    have H5 : Shut _ := ⟨h5⟩
    have hk1 : (k : Int) ≤ 1000000 := by have := hS.1; omega
    have E2 : Shut (min (k + 1) n = k + 1) := ⟨e2⟩
    clear h1 h2 h3 h4 h5 e e2 hz
    simp only [roundAct]
    gi_wp2
    refine ⟨(Keeps.refl _ _).setCell (p := ⟨w2.heap.size, 0, none⟩) (by simp) _, ?_, H.out⟩
    rw [E2.out]
    exact H5.out
  case done =>
    rintro W ⟨h1, h2, h3, h4⟩ hK
    have e : min (An.start r n).r n = n := by show min r n = n; omega
    rw [e] at h1
    have hre : An.Reach r (An.start r n) := reach_start r (r - n) n rfl hS.2.1 hS.2.2
    have hwf := hre.wf
    have hb := bucket_any h3 hwf (show r ≤ 65536 by omega) k
    have hl : Calls Try.prog 16 #[.pointer (some ⟨bk.p, 0, none⟩)] W fun e w' => e = .returned (.int .i64 (n : Int)) ∧ w' = W := len_any h3
    have hr1 := remove_no h3 (n : Int) fun h => by
      have h' : (n : Int).toNat < n := (start_works r n _ hS.2.2 hS.2.1).1 ⟨by have := h.2.1; show (n : Int).toNat < r; have e : (An.start r n).r = r := rfl; rw [e] at this; omega, h.2.2⟩
      omega
    have hr2 := remove_no h3 (-1) fun h => absurd h.1 (by decide)
    have hy := (start_works r n _ hS.2.2 hS.2.1).1 (bucket_works hwf (gmix k))
    obtain ⟨y, hye⟩ : ∃ y, bucket (An.start r n) (gmix k) = y := ⟨_, rfl⟩
    rw [hye] at hb hy
    clear hye
    have hy1 : (y : Int) < n := by omega
    have hy0 : (0 : Int) ≤ y := by omega
    have c := h1.cell 0 _ rfl
    have c2 := h2.cell 0 _ rfl
    have g2 := h2.free 0
    have H6 : Shut _ := ⟨h2.set 0 (.bool true)⟩
    have H7 : Shut (Below w.heap.size w (W.setCell ⟨w.heap.size, 0, none⟩ (.bool true))) := ⟨h4.setCell (p := ⟨w.heap.size, 0, none⟩) (Nat.le_refl _) _⟩
    have HK : Shut ((W.setCell ⟨w.heap.size, 0, none⟩ (.bool true)).heap[w2.heap.size + 2]? = some (.deferred (some []))) := ⟨by rw [← hsz]; exact (Below.heap_setCell _ _ _ _ (by show V0.heap.size ≠ w.heap.size; omega)).trans hK⟩
    have HV : Shut (w.heap.size < V0.heap.size) := ⟨by omega⟩
    clear h1 h2 h3 h4 hK hre hwf hy hS
    go_wp2_with fail
    refine hb.mono ?_
    rintro e' w5 ⟨rfl, hw5⟩
    obtain rfl := hw5.symm
    clear hw5
    go_wp2_with fail
    refine hl.mono ?_
    rintro e' w5 ⟨rfl, hw5⟩
    obtain rfl := hw5.symm
    clear hw5
    go_wp2_with fail
    refine hb.mono ?_
    rintro e' w5 ⟨rfl, hw5⟩
    obtain rfl := hw5.symm
    clear hw5
    go_wp2_with fail
    refine hr1.mono ?_
    rintro e' w5 ⟨rfl, hw5⟩
    obtain rfl := hw5.symm
    clear hw5
    go_wp2_with fail
    refine hr2.mono ?_
    rintro e' w5 ⟨rfl, hw5⟩
    obtain rfl := hw5.symm
    clear hw5
    go_wp2_with fail
    refine ⟨by simp, .inl ⟨_, _, rfl, run_takeDeferred HK.out, ?_⟩⟩
    exact ⟨_, results_cell rfl _ _ _ _ rfl (load_bool (cell_put (H6.out.cell 0 _ rfl) (by have := HV.out; simp; omega))), rfl, below_put H7.out (by have := HV.out; omega) _⟩
set_option maxHeartbeats 1000000 in
set_option maxRecDepth 100000 in
theorem walk (w : World) (a0 : Int) (a1 : Int) (a2 : Int) (w0 : (Lit.int .i64 a0).wf = true) (w1 : (Lit.int .i64 a1).wf = true) (w2 : (Lit.int .u64 a2).wf = true) :
    Calls Try.prog 6 #[.int .i64 a0, .int .i64 a1, .int .u64 a2] w fun e w' => e = .returned (.bool true) ∧ Below w.heap.size w w' := by
  obtain ⟨x0, x1⟩ := i64_bounds w0
  obtain ⟨y0, y1⟩ := i64_bounds w1
  obtain ⟨z0, z1⟩ := u64_bounds w2
  obtain ⟨k, rfl⟩ := nn_of a2 z0 (by omega)
  by_cases h1 : 500 < a0
  · by_cases h2 : a0 ≤ 65536
    · have hR : a0.tmod 500 < 500 := Int.tmod_lt_of_pos a0 (by decide)
      have hR0 : 0 ≤ a0.tmod 500 := Int.tmod_nonneg 500 (by omega)
      by_cases q1 : a0.tmod 500 < 1
      · exact bad11 a0 _ a1 k h1 h2 rfl q1 w
      · by_cases q3 : a1 < 1
        · exact bad13 a0 _ a1 k h1 h2 rfl q1 (by omega) q3 w
        · by_cases q4 : a0.tmod 500 < a1
          · exact bad14 a0 _ a1 k h1 h2 rfl q1 (by omega) q3 q4 w
          · obtain ⟨r, hr⟩ := Int.eq_ofNat_of_zero_le hR0
            obtain ⟨n, rfl⟩ := Int.eq_ofNat_of_zero_le (show 0 ≤ a1 by omega)
            rw [hr] at hR q4
            exact good1 a0 r n k h1 h2 hr (by omega) (by omega) (by omega) w
    · exact bad32 a0 a1 k h1 h2 (by omega) (by omega) w
  · by_cases q1 : a0 < 1
    · exact bad21 a0 a1 k h1 q1 w
    · by_cases q3 : a1 < 1
      · exact bad23 a0 a1 k h1 q1 (by omega) q3 w
      · by_cases q4 : a0 < a1
        · exact bad24 a0 a1 k h1 q1 (by omega) q3 q4 w
        · obtain ⟨r, rfl⟩ := Int.eq_ofNat_of_zero_le (show 0 ≤ a0 by omega)
          obtain ⟨n, rfl⟩ := Int.eq_ofNat_of_zero_le (show 0 ≤ a1 by omega)
          exact good2 r n k h1 (by omega) (by omega) (by omega) w

theorem own : ownKnob Try.prog.godebug = none := by kernel_rfl
set_option maxRecDepth 100000 in
theorem lifted (os : Os) (started : os.Started) (H : Type) (enc : TypeId × Value → H) :
    ReturnsInHanded {} Try.checked os 6 .any (Rows.anchorRoomsSpec.pre6 enc Try.prog Try.f6 Rows.anchorRoomsRow.domain false) (Rows.anchorRoomsSpec.post enc Try.prog Try.f6 false true false false) := by
  refine returnsInHanded_of_change_sized (C := Try.checked) own started (by kernel_rfl) Try.func6
    (ChangeSpec.witness6 (enc := enc) (C := Try.checked) false ⟨#[], #[.int .i64 0, .int .i64 0, .int .u64 0], []⟩ 8 (by kernel_rfl) (by kernel_rfl) (by kernel_rfl) (by kernel_rfl)) ?_
  intro W base args ds gs before hval0 hW hcnd hsz _
  have hval : ∀ (j : Nat) t v, Try.f6.params[j]? = some t → args[j]? = some v → Value.okWide Try.prog W .any base t v := hval0
  have hW' := hW
  obtain ⟨p, q, hA0, hV, rfl, hfz, hnd⟩ := hW
  have hA : DataW.TrodAll enc Try.prog W 0 (fun _ => true) true Try.f6.params.toList args.toList ds p := hA0
  rw [Try.params6] at hA hval
  obtain ⟨v0, vs0, d0, ds0, p0, q0, hargs, rfl, rfl, h0, r0⟩ := trodAll_cons hA
  obtain ⟨v1, vs1, d1, ds1, p1, q1, rfl, rfl, rfl, h1, r1⟩ := trodAll_cons r0
  obtain ⟨v2, vs2, d2, ds2, p2, q2, rfl, rfl, rfl, h2, r2⟩ := trodAll_cons r1
  obtain ⟨rfl, rfl, rfl⟩ := trodAll_nil r2
  obtain rfl : args = #[v0, v1, v2] := by cases args; simp_all
  obtain ⟨rfl, rfl⟩ := trodVars_none hV
  obtain ⟨a0, rfl, rfl, rfl, w0⟩ := open_int Try.underlying3 (hval 0 3 v0 rfl rfl) h0
  obtain ⟨a1, rfl, rfl, rfl, w1⟩ := open_int Try.underlying3 (hval 1 3 v1 rfl rfl) h1
  obtain ⟨a2, rfl, rfl, rfl, w2⟩ := open_int Try.underlying30 (hval 2 30 v2 rfl rfl) h2
  clear hA0 hval0
  simp only [List.append_nil] at hW'
  refine (walk W a0 a1 a2 w0 w1 w2).mono fun e W' ⟨he, bel⟩ => ?_
  subst he
  exact ⟨_, rfl, _, _, _, [], _, [], hW', (trodAll_cons_mk (shut_bool Try.underlying4 _) trodAll_mk0), (trodAll_cons_mk (shut_int Try.underlying3 w0) (trodAll_cons_mk (shut_int Try.underlying3 w1) (trodAll_cons_mk (shut_int Try.underlying30 w2) trodAll_mk0))), rfl, bel.frame _, fun h => by cases h⟩

theorem over : Rows.anchorRoomsRow.holds Try.pinned (OpenSpec.ofChange Rows.anchorRoomsSpec) :=
  OpenClaim.holds_of_wide 6 Try.f6 rfl rfl rfl rfl rfl rfl rfl ⟨rfl, rfl, rfl, rfl, rfl⟩ rfl rfl rfl rfl rfl (by kernel_rfl) Try.func6 (by kernel_rfl)
    (of_decide_eq_true (by kernel_rfl)) (by unfold Func.isWrapper; first | (rw [if_pos (by decide +kernel)]; kernel_rfl) | (rw [if_neg (by decide +kernel)]; exact ⟨rfl, rfl⟩))
    (fun os started H enc _ => lifted os started H enc)

theorem proved : Rows.AnchorRoomsSaid := over
#print axioms proved
end Go.Proofs.Ytmmaglhilghofaa.anchorRooms
