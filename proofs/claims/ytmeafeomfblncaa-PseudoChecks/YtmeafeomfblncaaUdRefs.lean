/- What the reference Parse and Size of chapter 6 compute: the same as the program's. -/
import Derived.Test.YtmeafeomfblncaaUdSize
namespace Go.Proofs.Ytmeafeomfblncaa
open Go.ChangeShapes Go.WideShapes Go.ChangeAt Go.RowKit

set_option maxHeartbeats 400000 in
theorem num_any (size n : Int) (w : World) :
    Calls Try.prog 39 #[.int .i64 size, .int .i64 n] w fun e w' => e = .returned (.string (laid size n)) ∧ Below w.heap.size w w' := by
  go_enter Try.func39, Try.ntmps39
  go_wp2_with fail
  refine (rput_any _ _ _).mono ?_
  rintro e w' ⟨rfl, hb⟩
  go_wp2_with fail
  go_ret
  exact ⟨rfl, hb⟩

theorem port_cases {n : Int} (h : inP n = false) : n < 0 ∨ 65535 < n := by
  by_cases h0 : n < 0
  · exact .inl h0
  · by_cases h1 : 65535 < n
    · exact .inr h1
    · rw [(inP_iff n).2 (by omega)] at h; cases h

set_option maxHeartbeats 1000000 in
theorem rparse_any (s : ByteArray) (w : World) (hs : s.size ≤ 281474976710656) :
    Calls Try.prog 47 #[.string s] w fun e w' => e = .returned (.tuple #[.int .i64 (parA s), .int .i64 (parB s), .string (parC s), .int .i64 (measE s)]) ∧ Below w.heap.size w w' := by
  have hm : s.size ≤ maxLen := by unfold maxLen; omega
  by_cases h8 : s.size < 8
  · have he : measE s = 2 := by unfold measE; rw [if_pos h8]
    have HE := hide (meas_no (by rw [he]; decide))
    have HZ := hide he
    have h8' : decide ((s.size : Int) < 8) = true := by simp; omega
    clear he
    go_enter Try.func47, Try.ntmps47
    go_wp2_with fail
    refine bodyPost_ret (v := .tuple #[.int .i64 0, .int .i64 0, .string ⟨#[]⟩, .int .i64 2]) (by simp [results, Try.results47, go_sem]) rfl ⟨?_, Below.refl _ _⟩
    exact ret_iisi (unhide HE).2.1.symm (unhide HE).2.2.1.symm (unhide HE).2.2.2.symm (unhide HZ).symm
  · have d8 : decide ((s.size : Int) < 8) = false := by simp; omega
    have H0 := hide (rget_any s 0 2 w hm)
    have H2 := hide (rget_any s 2 2 w hm)
    have H4 := hide (rget_any s 4 2 w hm)
    generalize gotB s 0 2 = q0 at *
    generalize gotB s 2 2 = q2 at *
    generalize gotB s 4 2 = q4 at *
    by_cases he : measE s = 0
    · obtain ⟨_, n0, n1⟩ := measE_ok he
      have HE := hide (meas_yes he)
      have HZ := hide he
      obtain ⟨k, hk⟩ : ∃ k : Nat, got s 4 2 = k := ⟨(got s 4 2).toNat, by omega⟩
      rw [hk] at H4 HE n0 n1
      rw [Int.toNat_natCast] at HE
      have d1 : decide ((k : Int) < 8) = false := by simp; omega
      have d2 : decide ((s.size : Int) < (k : Int)) = false := by simp; omega
      generalize got s 0 2 = x at *
      generalize got s 2 2 = y at *
      clear hk he
      go_enter Try.func47, Try.ntmps47
      go_wp2_with fail
      refine (unhide H0).mono ?_
      rintro e w1 ⟨rfl, rfl⟩
      go_wp2_with fail
      refine (unhide H2).mono ?_
      rintro e w1 ⟨rfl, rfl⟩
      go_wp2_with fail
      refine (unhide H4).mono ?_
      rintro e w1 ⟨rfl, rfl⟩
      go_wp2_with fail
      go_quiet (fail)
      go_wp2_with fail
      refine bodyPost_ret (v := .tuple #[.int .i64 x, .int .i64 y, .string (s.extract 8 k), .int .i64 0]) (by simp [results, Try.results47, go_sem]) rfl ⟨?_, ?_⟩
      · exact ret_iisi (unhide HE).2.1.symm (unhide HE).2.2.1.symm (unhide HE).2.2.2.symm (unhide HZ).symm
      · exact below_drewN (Below.refl _ _) _
    · have he5 : measE s = 5 := by
        unfold measE at he ⊢
        rw [if_neg h8] at he ⊢
        split
        · rfl
        · rename_i h1
          rw [if_neg h1] at he
          split
          · rfl
          · rename_i h2
            rw [if_neg h2] at he
            exact absurd rfl he
      have hc : got s 4 2 < 8 ∨ ¬ got s 4 2 < 8 ∧ (s.size : Int) < got s 4 2 := by
        by_cases h1 : got s 4 2 < 8
        · exact .inl h1
        · refine .inr ⟨h1, ?_⟩
          by_cases h2 : (s.size : Int) < got s 4 2
          · exact h2
          · exact absurd (by unfold measE; rw [if_neg h8, if_neg h1, if_neg h2]) he
      have HE := hide (meas_no he)
      have HZ := hide he5
      generalize got s 0 2 = x at *
      generalize got s 2 2 = y at *
      generalize got s 4 2 = n at *
      clear he he5
      rcases hc with h1 | ⟨h1, h2⟩
      · have d1 : decide (n < 8) = true := by simpa using h1
        go_enter Try.func47, Try.ntmps47
        go_wp2_with fail
        refine (unhide H0).mono ?_
        rintro e w1 ⟨rfl, rfl⟩
        go_wp2_with fail
        refine (unhide H2).mono ?_
        rintro e w1 ⟨rfl, rfl⟩
        go_wp2_with fail
        refine (unhide H4).mono ?_
        rintro e w1 ⟨rfl, rfl⟩
        go_wp2_with fail
        refine bodyPost_ret (v := .tuple #[.int .i64 0, .int .i64 0, .string ⟨#[]⟩, .int .i64 5]) (by simp [results, Try.results47, go_sem]) rfl ⟨?_, Below.refl _ _⟩
        exact ret_iisi (unhide HE).2.1.symm (unhide HE).2.2.1.symm (unhide HE).2.2.2.symm (unhide HZ).symm
      · have d1 : decide (n < 8) = false := by simpa using h1
        have d2 : decide ((s.size : Int) < n) = true := by simpa using h2
        go_enter Try.func47, Try.ntmps47
        go_wp2_with fail
        refine (unhide H0).mono ?_
        rintro e w1 ⟨rfl, rfl⟩
        go_wp2_with fail
        refine (unhide H2).mono ?_
        rintro e w1 ⟨rfl, rfl⟩
        go_wp2_with fail
        refine (unhide H4).mono ?_
        rintro e w1 ⟨rfl, rfl⟩
        go_wp2_with fail
        refine bodyPost_ret (v := .tuple #[.int .i64 0, .int .i64 0, .string ⟨#[]⟩, .int .i64 5]) (by simp [results, Try.results47, go_sem]) rfl ⟨?_, Below.refl _ _⟩
        exact ret_iisi (unhide HE).2.1.symm (unhide HE).2.2.1.symm (unhide HE).2.2.2.symm (unhide HZ).symm

set_option maxHeartbeats 1000000 in
theorem rsize_any (s : ByteArray) (w : World) (hs : s.size ≤ 281474976710656) :
    Calls Try.prog 37 #[.string s] w fun e w' => e = .returned (.tuple #[.int .i64 (measN s), .bool (measE s == 0)]) ∧ Below w.heap.size w w' := by
  have HP := hide (rparse_any s w hs)
  have hC := parC_size s
  have HN : Hid (measE s = 0 → (8 + ((parC s).size : Int)) = measN s) := fun he => by
    obtain ⟨h8, n0, n1⟩ := measE_ok he
    obtain ⟨e1, _, _, e4⟩ := meas_yes he
    rw [e1, e4, Oct.ext_size _ _ _ (by omega)]; omega
  have HN0 : Hid (¬ measE s = 0 → (0 : Int) = measN s) := fun he => (meas_no he).1.symm
  generalize parA s = a at *
  generalize parB s = b at *
  generalize parC s = c at *
  generalize measN s = n at *
  generalize measE s = x at *
  by_cases he : x = 0
  · have d : (x != 0) = false := by simpa using he
    have HR := hide (unhide HN he)
    have HX : Hid (true = (x == 0)) := by show _ = _; rw [he]; rfl
    clear HN HN0 he
    go_enter Try.func37, Try.ntmps37
    go_wp2_with fail
    refine (unhide HP).mono ?_
    rintro e w1 ⟨rfl, hb1⟩
    have HB := hide hb1
    clear hb1
    go_wp2_with fail
    go_ret2
    exact ⟨ret_kb (unhide HR) HX.out, unhide HB⟩
  · have d : (x != 0) = true := by simpa using he
    have HR := hide (unhide HN0 he)
    have HX : Hid (false = (x == 0)) := by show _ = _; simp [he]
    clear HN HN0 he
    go_enter Try.func37, Try.ntmps37
    go_wp2_with fail
    refine (unhide HP).mono ?_
    rintro e w1 ⟨rfl, hb1⟩
    have HB := hide hb1
    clear hb1
    go_wp2_with fail
    go_ret2
    exact ⟨ret_kb (unhide HR) HX.out, unhide HB⟩
end Go.Proofs.Ytmeafeomfblncaa
