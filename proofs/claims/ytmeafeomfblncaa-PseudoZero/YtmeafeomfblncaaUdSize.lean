/- What measured and Size of package udp compute: one contract a function. -/
import Derived.Test.YtmeafeomfblncaaUdBuild
namespace Go.Proofs.Ytmeafeomfblncaa
open Go.ChangeShapes Go.WideShapes Go.ChangeAt Go.RowKit

theorem ret_iisi {a a' b b' x x' : Int} {c c' : ByteArray} (h1 : a = a') (h2 : b = b') (h3 : c = c') (h4 : x = x') : Ending.returned (.tuple #[.int .i64 a, .int .i64 b, .string c, .int .i64 x]) = .returned (.tuple #[.int .i64 a', .int .i64 b', .string c', .int .i64 x']) := by rw [h1, h2, h3, h4]
theorem meas_no {s : ByteArray} (h : measE s ≠ 0) : measN s = 0 ∧ parA s = 0 ∧ parB s = 0 ∧ parC s = ⟨#[]⟩ := by
  unfold measN parA parB parC; rw [if_neg h, if_neg h, if_neg h, if_neg h]; exact ⟨rfl, rfl, rfl, rfl⟩
theorem meas_yes {s : ByteArray} (h : measE s = 0) : measN s = got s 4 2 ∧ parA s = got s 0 2 ∧ parB s = got s 2 2 ∧ parC s = s.extract 8 (got s 4 2).toNat := by
  unfold measN parA parB parC; rw [if_pos h, if_pos h, if_pos h, if_pos h]; exact ⟨rfl, rfl, rfl, rfl⟩

set_option maxHeartbeats 1000000 in
theorem measured_any (s : ByteArray) (w : World) (hs : s.size ≤ 281474976710656) :
    Calls Try.prog 46 #[.string s] w fun e w' => e = .returned (.tuple #[.int .i64 (measN s), .int .i64 (measE s)]) ∧ w' = w := by
  have hm : s.size ≤ maxLen := by unfold maxLen; omega
  have HG := hide (get_any s 4 2 w hm)
  by_cases h8 : s.size < 8
  · have HE : Hid (measE s = 2) := by show _ = _; unfold measE; rw [if_pos h8]
    have HN : Hid (measN s = 0) := (meas_no (by rw [HE.out]; decide)).1
    have h8' : (s.size : Int) < 8 := by omega
    go_enter Try.func46, Try.ntmps46
    go_wp2_with fail
    go_ret2
    exact ⟨ret_ii HN.out.symm HE.out.symm, rfl⟩
  · have d8 : decide ((s.size : Int) < 8) = false := by simp; omega
    by_cases h1 : got s 4 2 < 8
    · have HE : Hid (measE s = 5) := by show _ = _; unfold measE; rw [if_neg h8, if_pos h1]
      have HN : Hid (measN s = 0) := (meas_no (by rw [HE.out]; decide)).1
      generalize got s 4 2 = n at *
      have d1 : decide (n < 8) = true := by simpa using h1
      go_enter Try.func46, Try.ntmps46
      go_wp2_with fail
      refine (unhide HG).mono ?_
      rintro e w1 ⟨rfl, rfl⟩
      go_wp2_with fail
      go_ret2
      exact ⟨ret_ii HN.out.symm HE.out.symm, rfl⟩
    · by_cases h2 : (s.size : Int) < got s 4 2
      · have HE : Hid (measE s = 5) := by show _ = _; unfold measE; rw [if_neg h8, if_neg h1, if_pos h2]
        have HN : Hid (measN s = 0) := (meas_no (by rw [HE.out]; decide)).1
        generalize got s 4 2 = n at *
        have d1 : decide (n < 8) = false := by simpa using h1
        have d2 : decide ((s.size : Int) < n) = true := by simpa using h2
        go_enter Try.func46, Try.ntmps46
        go_wp2_with fail
        refine (unhide HG).mono ?_
        rintro e w1 ⟨rfl, rfl⟩
        go_wp2_with fail
        go_ret2
        exact ⟨ret_ii HN.out.symm HE.out.symm, rfl⟩
      · have HE : Hid (measE s = 0) := by show _ = _; unfold measE; rw [if_neg h8, if_neg h1, if_neg h2]
        have HN : Hid (measN s = got s 4 2) := (meas_yes HE.out).1
        generalize got s 4 2 = n at *
        have d1 : decide (n < 8) = false := by simpa using h1
        have d2 : decide ((s.size : Int) < n) = false := by simpa using h2
        go_enter Try.func46, Try.ntmps46
        go_wp2_with fail
        refine (unhide HG).mono ?_
        rintro e w1 ⟨rfl, rfl⟩
        go_wp2_with fail
        go_ret2
        exact ⟨ret_ii HN.out.symm HE.out.symm, rfl⟩

set_option maxHeartbeats 1000000 in
theorem size_any (s : ByteArray) (w : World) (hs : s.size ≤ 281474976710656) :
    Calls Try.prog 35 #[.string s] w fun e w' => e = .returned (.tuple #[.int .i64 (measN s), .bool (measE s == 0)]) ∧ w' = w := by
  have HM := hide (measured_any s w hs)
  generalize measN s = n at *
  generalize measE s = x at *
  go_enter Try.func35, Try.ntmps35
  go_wp2_with fail
  refine (unhide HM).mono ?_
  rintro e w1 ⟨rfl, rfl⟩
  go_wp2_with fail
  go_ret2
  exact ⟨rfl, rfl⟩

end Go.Proofs.Ytmeafeomfblncaa
