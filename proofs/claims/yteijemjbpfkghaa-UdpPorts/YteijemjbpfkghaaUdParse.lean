/- What measured, Parse and Size of package udp compute: one contract a function. -/
import Derived.Test.YteijemjbpfkghaaUdBuild
import Derived.Test.YteijemjbpfkghaaIpClone
namespace Go.Proofs.Yteijemjbpfkghaa
open Go.ChangeShapes Go.WideShapes Go.ChangeAt Go.RowKit

theorem ret_ii {a b x y : Int} (h1 : a = b) (h2 : x = y) : Ending.returned (.tuple #[.int .i64 a, .int .i64 x]) = .returned (.tuple #[.int .i64 b, .int .i64 y]) := by rw [h1, h2]
theorem ret_ib {a b : Int} {x y : Bool} (h1 : a = b) (h2 : x = y) : Ending.returned (.tuple #[.int .i64 a, .bool x]) = .returned (.tuple #[.int .i64 b, .bool y]) := by rw [h1, h2]
theorem ret_iisi {a a' b b' x x' : Int} {c c' : ByteArray} (h1 : a = a') (h2 : b = b') (h3 : c = c') (h4 : x = x') : Ending.returned (.tuple #[.int .i64 a, .int .i64 b, .string c, .int .i64 x]) = .returned (.tuple #[.int .i64 a', .int .i64 b', .string c', .int .i64 x']) := by rw [h1, h2, h3, h4]
theorem meas_no {s : ByteArray} (h : measE s ≠ 0) : measN s = 0 ∧ parA s = 0 ∧ parB s = 0 ∧ parC s = ⟨#[]⟩ := by
  unfold measN parA parB parC; rw [if_neg h, if_neg h, if_neg h, if_neg h]; exact ⟨rfl, rfl, rfl, rfl⟩
theorem meas_yes {s : ByteArray} (h : measE s = 0) : measN s = got s 4 2 ∧ parA s = got s 0 2 ∧ parB s = got s 2 2 ∧ parC s = s.extract 8 (got s 4 2).toNat := by
  unfold measN parA parB parC; rw [if_pos h, if_pos h, if_pos h, if_pos h]; exact ⟨rfl, rfl, rfl, rfl⟩

set_option maxHeartbeats 1000000 in
theorem measured_any (s : ByteArray) (w : World) (hs : s.size ≤ 281474976710656) :
    Calls Try.prog 18 #[.string s] w fun e w' => e = .returned (.tuple #[.int .i64 (measN s), .int .i64 (measE s)]) ∧ w' = w := by
  have hm : s.size ≤ maxLen := by unfold maxLen; omega
  have HG := hide (get_any s 4 2 w hm)
  by_cases h8 : s.size < 8
  · have HE : Hid (measE s = 2) := by show _ = _; unfold measE; rw [if_pos h8]
    have HN : Hid (measN s = 0) := (meas_no (by rw [HE.out]; decide)).1
    have h8' : (s.size : Int) < 8 := by omega
    go_enter Try.func18, Try.ntmps18
    go_wp2_with fail
    go_ret2
    exact ⟨ret_ii HN.out.symm HE.out.symm, rfl⟩
  · have d8 : decide ((s.size : Int) < 8) = false := by simp; omega
    by_cases h1 : got s 4 2 < 8
    · have HE : Hid (measE s = 5) := by show _ = _; unfold measE; rw [if_neg h8, if_pos h1]
      have HN : Hid (measN s = 0) := (meas_no (by rw [HE.out]; decide)).1
      generalize got s 4 2 = n at *
      have d1 : decide (n < 8) = true := by simpa using h1
      go_enter Try.func18, Try.ntmps18
      go_wp2_with fail
      refine (unhide HG).mono ?_
      rintro e w1 ⟨rfl, rfl⟩
      go_wp2_with fail
      go_ret2
      exact ⟨ret_ii HN.out.symm HE.out.symm, rfl⟩
    · by_cases h2 : (s.size : Int) < got s 4 2
      · have HE : Hid (measE s = 5) := by show _ = _; unfold measE; rw [if_neg h8, if_neg h1, if_pos h2]
        have HN : Hid (measN s = 0) := (meas_no (by rw [HE.out]; decide)).1
        generalize got s 4 2 = n at *
        have d1 : decide (n < 8) = false := by simpa using h1
        have d2 : decide ((s.size : Int) < n) = true := by simpa using h2
        go_enter Try.func18, Try.ntmps18
        go_wp2_with fail
        refine (unhide HG).mono ?_
        rintro e w1 ⟨rfl, rfl⟩
        go_wp2_with fail
        go_ret2
        exact ⟨ret_ii HN.out.symm HE.out.symm, rfl⟩
      · have HE : Hid (measE s = 0) := by show _ = _; unfold measE; rw [if_neg h8, if_neg h1, if_neg h2]
        have HN : Hid (measN s = got s 4 2) := (meas_yes HE.out).1
        generalize got s 4 2 = n at *
        have d1 : decide (n < 8) = false := by simpa using h1
        have d2 : decide ((s.size : Int) < n) = false := by simpa using h2
        go_enter Try.func18, Try.ntmps18
        go_wp2_with fail
        refine (unhide HG).mono ?_
        rintro e w1 ⟨rfl, rfl⟩
        go_wp2_with fail
        go_ret2
        exact ⟨ret_ii HN.out.symm HE.out.symm, rfl⟩

set_option maxHeartbeats 1000000 in
theorem size_any (s : ByteArray) (w : World) (hs : s.size ≤ 281474976710656) :
    Calls Try.prog 14 #[.string s] w fun e w' => e = .returned (.tuple #[.int .i64 (measN s), .bool (measE s == 0)]) ∧ w' = w := by
  have HM := hide (measured_any s w hs)
  generalize measN s = n at *
  generalize measE s = x at *
  go_enter Try.func14, Try.ntmps14
  go_wp2_with fail
  refine (unhide HM).mono ?_
  rintro e w1 ⟨rfl, rfl⟩
  go_wp2_with fail
  go_ret2
  exact ⟨rfl, rfl⟩

set_option maxHeartbeats 1000000 in
theorem parse_any (s : ByteArray) (w : World) (hs : s.size ≤ 281474976710656) :
    Calls Try.prog 12 #[.string s] w fun e w' => e = .returned (.tuple #[.int .i64 (parA s), .int .i64 (parB s), .string (parC s), .int .i64 (measE s)]) ∧ Below w.heap.size w w' := by
  have hm : s.size ≤ maxLen := by unfold maxLen; omega
  have HM := hide (measured_any s w hs)
  have H0 := hide (get_any s 0 2 w hm)
  have H2 := hide (get_any s 2 2 w hm)
  by_cases he : measE s = 0
  · obtain ⟨h8, n0, n1⟩ := measE_ok he
    have HE := hide (meas_yes he)
    have HZ := hide he
    have hN : measN s = got s 4 2 := (meas_yes he).1
    rw [hN, he] at HM
    have HC := hide (fun u => clone_any (s.extract 8 (got s 4 2).toNat) u (by rw [ByteArray.size_extract]; omega))
    obtain ⟨k, hk⟩ : ∃ k : Nat, got s 4 2 = k := ⟨(got s 4 2).toNat, by omega⟩
    rw [hk] at HM HC HE n0 n1
    rw [Int.toNat_natCast] at HC HE
    generalize hp0 : got s 0 2 = x at *
    generalize hp2 : got s 2 2 = y at *
    clear hN hk he hp0 hp2
    go_enter Try.func12, Try.ntmps12
    go_wp2_with fail
    refine (unhide HM).mono ?_
    rintro e w1 ⟨rfl, rfl⟩
    go_wp2_with fail
    refine (unhide H0).mono ?_
    rintro e w1 ⟨rfl, rfl⟩
    go_wp2_with fail
    refine (unhide H2).mono ?_
    rintro e w1 ⟨rfl, rfl⟩
    go_wp2_with fail
    refine (unhide HC _).mono ?_
    rintro e w2 ⟨rfl, hb2⟩
    have HB := hide hb2
    clear hb2
    go_wp2_with fail
    refine bodyPost_ret (v := .tuple #[.int .i64 x, .int .i64 y, .string (s.extract 8 k), .int .i64 0]) (by simp [results, Try.results12, go_sem]) rfl ⟨?_, unhide HB⟩
    exact ret_iisi (unhide HE).2.1.symm (unhide HE).2.2.1.symm (unhide HE).2.2.2.symm (unhide HZ).symm
  · have HE := hide (meas_no he)
    have hd : (measE s != 0) = true := by simpa using he
    rw [(meas_no he).1] at HM
    generalize measE s = x at *
    clear he
    go_enter Try.func12, Try.ntmps12
    go_wp2_with fail
    refine (unhide HM).mono ?_
    rintro e w1 ⟨rfl, rfl⟩
    go_wp2_with fail
    refine bodyPost_ret (v := .tuple #[.int .i64 0, .int .i64 0, .string ⟨#[]⟩, .int .i64 x]) (by simp [results, Try.results12, go_sem]) rfl ⟨?_, Below.refl _ _⟩
    exact ret_iisi (unhide HE).2.1.symm (unhide HE).2.2.1.symm (unhide HE).2.2.2.symm rfl
end Go.Proofs.Yteijemjbpfkghaa
