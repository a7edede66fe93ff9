/- What the reference Build, Parse and Size of chapter 6 compute: the same as the program's. -/
import Derived.Test.YteijemjbpfkghaaUdParse
namespace Go.Proofs.Yteijemjbpfkghaa
open Go.ChangeShapes Go.WideShapes Go.ChangeAt Go.RowKit

set_option maxHeartbeats 400000 in
theorem num_any (size n : Int) (w : World) :
    Calls Try.prog 17 #[.int .i64 size, .int .i64 n] w fun e w' => e = .returned (.string (laid size n)) ∧ Below w.heap.size w w' := by
  go_enter Try.func17, Try.ntmps17
  go_wp2_with fail
  refine (rput_any _ _ _).mono ?_
  rintro e w' ⟨rfl, hb⟩
  go_wp2_with fail
  go_ret
  exact ⟨rfl, hb⟩

theorem below_drewN {B : Nat} {a b : World} (h : Below B a b) (n : Nat) : Below B a (b.drewN n) := ⟨h.os, h.tape, h.output, h.size, h.block⟩
theorem port_cases {n : Int} (h : inP n = false) : n < 0 ∨ 65535 < n := by
  by_cases h0 : n < 0
  · exact .inl h0
  · by_cases h1 : 65535 < n
    · exact .inr h1
    · rw [(inP_iff n).2 (by omega)] at h; cases h

set_option maxHeartbeats 1000000 in
theorem rbuild_any (a b : Int) (body : ByteArray) (w : World) (hbody : body.size ≤ 140737488355328) :
    Calls Try.prog 11 #[.int .i64 a, .int .i64 b, .string body] w fun e w' => e = .returned (.tuple #[.string (buildS a b body), .int .i64 (buildE a b body)]) ∧ Below w.heap.size w w' := by
  have no : textB a b = false → Hid (buildE a b body = 1) ∧ Hid (buildS a b body = ⟨#[]⟩) := fun ht => by
    have he : buildE a b body = 1 := by unfold buildE; rw [if_pos ht]
    exact ⟨he, buildS_no (by rw [he]; decide)⟩
  cases ha : inP a with
  | false =>
    obtain ⟨HE, HS⟩ := no (by unfold textB; rw [ha]; rfl)
    rcases port_cases ha with h0 | h1
    · have d0 : decide (a < 0) = true := by simpa using h0
      clear no ha
      go_enter Try.func11, Try.ntmps11
      go_wp2_with fail
      go_ret2
      exact ⟨ret_si HS.out.symm HE.out.symm, Below.refl _ _⟩
    · have d0 : decide (a < 0) = false := by simp; omega
      have d1 : decide (65535 < a) = true := by simpa using h1
      clear no ha
      go_enter Try.func11, Try.ntmps11
      go_wp2_with fail
      go_ret2
      exact ⟨ret_si HS.out.symm HE.out.symm, Below.refl _ _⟩
  | true =>
    obtain ⟨a0, a1⟩ := (inP_iff a).1 ha
    have d0 : decide (a < 0) = false := by simp; omega
    have d1 : decide (65535 < a) = false := by simp; omega
    cases hb : inP b with
    | false =>
      obtain ⟨HE, HS⟩ := no (by unfold textB; rw [ha, hb]; rfl)
      rcases port_cases hb with h0 | h1
      · have e0 : decide (b < 0) = true := by simpa using h0
        clear no ha hb
        go_enter Try.func11, Try.ntmps11
        go_wp2_with fail
        go_ret2
        exact ⟨ret_si HS.out.symm HE.out.symm, Below.refl _ _⟩
      · have e0 : decide (b < 0) = false := by simp; omega
        have e1 : decide (65535 < b) = true := by simpa using h1
        clear no ha hb
        go_enter Try.func11, Try.ntmps11
        go_wp2_with fail
        go_ret2
        exact ⟨ret_si HS.out.symm HE.out.symm, Below.refl _ _⟩
    | true =>
      obtain ⟨b0, b1⟩ := (inP_iff b).1 hb
      have e0 : decide (b < 0) = false := by simp; omega
      have e1 : decide (65535 < b) = false := by simp; omega
      have ht : textB a b = true := by unfold textB; rw [ha, hb]; rfl
      by_cases hl : 1500 < 8 + (body.size : Int)
      · have HE : Hid (buildE a b body = 18) := by show _ = _; unfold buildE; rw [if_neg (by rw [ht]; decide), if_pos hl]
        have HS : Hid (buildS a b body = ⟨#[]⟩) := buildS_no (by rw [HE.out]; decide)
        have hd : decide (1500 < 8 + (body.size : Int)) = true := by simpa using hl
        clear no ha hb
        go_enter Try.func11, Try.ntmps11
        go_wp2_with fail
        go_ret2
        exact ⟨ret_si HS.out.symm HE.out.symm, Below.refl _ _⟩
      · have HE : Hid (buildE a b body = 0) := by show _ = _; unfold buildE; rw [if_neg (by rw [ht]; decide), if_neg hl]
        have hd : decide (1500 < 8 + (body.size : Int)) = false := by simpa using hl
        have HS : Hid (buildS a b body = laid 2 a ++ laid 2 b ++ laid 2 (8 + (body.size : Int)) ++ ⟨#[0, 0]⟩ ++ body) := by
          show _ = _
          rw [buildS_of HE.out]; unfold built; rw [laid_zero]
          apply Oct.ba_ext
          simp only [app_list, List.append_assoc]
        have H1 := hide (fun u => num_any 2 a u)
        have H2 := hide (fun u => num_any 2 b u)
        have H3 := hide (fun u => num_any 2 (8 + (body.size : Int)) u)
        have z1 := laid_size 2 a
        have z2 := laid_size 2 b
        have z3 := laid_size 2 (8 + (body.size : Int))
        generalize laid 2 a = A at *
        generalize laid 2 b = B at *
        generalize laid 2 (8 + (body.size : Int)) = C at *
        have s1 := add_run A B (by omega) (by omega)
        have s2 := add_run (A ++ B) C (by rw [ByteArray.size_append]; omega) (by omega)
        have s3 := add_run (A ++ B ++ C) ⟨#[0, 0]⟩ (by rw [ByteArray.size_append, ByteArray.size_append]; omega) (by decide)
        have s4 := add_run (A ++ B ++ C ++ ⟨#[0, 0]⟩) body (by rw [ByteArray.size_append, ByteArray.size_append, ByteArray.size_append]; have : (ByteArray.mk #[0, 0]).size = 2 := rfl; omega) hbody
        generalize A ++ B = M1 at *
        generalize M1 ++ C = M2 at *
        generalize M2 ++ ⟨#[0, 0]⟩ = M3 at *
        clear no ha hb z1 z2 z3
        go_enter Try.func11, Try.ntmps11
        go_wp2_with fail
        refine (unhide H1 _).mono ?_
        rintro e w1 ⟨rfl, hb1⟩
        have HB1 := hide hb1
        clear hb1
        go_wp2_with fail
        refine (unhide H2 _).mono ?_
        rintro e w2 ⟨rfl, hb2⟩
        have HB2 := hide (Below.then (unhide HB1) hb2)
        clear hb2
        go_wp2_with fail
        refine (unhide H3 _).mono ?_
        rintro e w3 ⟨rfl, hb3⟩
        have HB3 := hide (Below.then (unhide HB2) hb3)
        clear hb3
        go_wp2_with fail
        go_ret2
        exact ⟨ret_si HS.out.symm HE.out.symm, unhide HB3⟩

set_option maxHeartbeats 1000000 in
theorem rparse_any (s : ByteArray) (w : World) (hs : s.size ≤ 281474976710656) :
    Calls Try.prog 13 #[.string s] w fun e w' => e = .returned (.tuple #[.int .i64 (parA s), .int .i64 (parB s), .string (parC s), .int .i64 (measE s)]) ∧ Below w.heap.size w w' := by
  have hm : s.size ≤ maxLen := by unfold maxLen; omega
  by_cases h8 : s.size < 8
  · have he : measE s = 2 := by unfold measE; rw [if_pos h8]
    have HE := hide (meas_no (by rw [he]; decide))
    have HZ := hide he
    have h8' : decide ((s.size : Int) < 8) = true := by simp; omega
    clear he
    go_enter Try.func13, Try.ntmps13
    go_wp2_with fail
    refine bodyPost_ret (v := .tuple #[.int .i64 0, .int .i64 0, .string ⟨#[]⟩, .int .i64 2]) (by simp [results, Try.results13, go_sem]) rfl ⟨?_, Below.refl _ _⟩
    exact ret_iisi (unhide HE).2.1.symm (unhide HE).2.2.1.symm (unhide HE).2.2.2.symm (unhide HZ).symm
  · have d8 : decide ((s.size : Int) < 8) = false := by simp; omega
    have H0 := hide (rget_any s 0 2 w hm)
    have H2 := hide (rget_any s 2 2 w hm)
    have H4 := hide (rget_any s 4 2 w hm)
    generalize gotB s 0 2 = q0 at *
    generalize gotB s 2 2 = q2 at *
    generalize gotB s 4 2 = q4 at *
    by_cases he : measE s = 0
    · obtain ⟨_, n0, n1⟩ := measE_ok he
      have HE := hide (meas_yes he)
      have HZ := hide he
      obtain ⟨k, hk⟩ : ∃ k : Nat, got s 4 2 = k := ⟨(got s 4 2).toNat, by omega⟩
      rw [hk] at H4 HE n0 n1
      rw [Int.toNat_natCast] at HE
      have d1 : decide ((k : Int) < 8) = false := by simp; omega
      have d2 : decide ((s.size : Int) < (k : Int)) = false := by simp; omega
      generalize got s 0 2 = x at *
      generalize got s 2 2 = y at *
      clear hk he
      go_enter Try.func13, Try.ntmps13
      go_wp2_with fail
      refine (unhide H0).mono ?_
      rintro e w1 ⟨rfl, rfl⟩
      go_wp2_with fail
      refine (unhide H2).mono ?_
      rintro e w1 ⟨rfl, rfl⟩
      go_wp2_with fail
      refine (unhide H4).mono ?_
      rintro e w1 ⟨rfl, rfl⟩
      go_wp2_with fail
      go_quiet (fail)
      go_wp2_with fail
      refine bodyPost_ret (v := .tuple #[.int .i64 x, .int .i64 y, .string (s.extract 8 k), .int .i64 0]) (by simp [results, Try.results13, go_sem]) rfl ⟨?_, ?_⟩
      · exact ret_iisi (unhide HE).2.1.symm (unhide HE).2.2.1.symm (unhide HE).2.2.2.symm (unhide HZ).symm
      · exact below_drewN (Below.refl _ _) _
    · have he5 : measE s = 5 := by
        unfold measE at he ⊢
        rw [if_neg h8] at he ⊢
        split
        · rfl
        · rename_i h1
          rw [if_neg h1] at he
          split
          · rfl
          · rename_i h2
            rw [if_neg h2] at he
            exact absurd rfl he
      have hc : got s 4 2 < 8 ∨ ¬ got s 4 2 < 8 ∧ (s.size : Int) < got s 4 2 := by
        by_cases h1 : got s 4 2 < 8
        · exact .inl h1
        · refine .inr ⟨h1, ?_⟩
          by_cases h2 : (s.size : Int) < got s 4 2
          · exact h2
          · exact absurd (by unfold measE; rw [if_neg h8, if_neg h1, if_neg h2]) he
      have HE := hide (meas_no he)
      have HZ := hide he5
      generalize got s 0 2 = x at *
      generalize got s 2 2 = y at *
      generalize got s 4 2 = n at *
      clear he he5
      rcases hc with h1 | ⟨h1, h2⟩
      · have d1 : decide (n < 8) = true := by simpa using h1
        go_enter Try.func13, Try.ntmps13
        go_wp2_with fail
        refine (unhide H0).mono ?_
        rintro e w1 ⟨rfl, rfl⟩
        go_wp2_with fail
        refine (unhide H2).mono ?_
        rintro e w1 ⟨rfl, rfl⟩
        go_wp2_with fail
        refine (unhide H4).mono ?_
        rintro e w1 ⟨rfl, rfl⟩
        go_wp2_with fail
        refine bodyPost_ret (v := .tuple #[.int .i64 0, .int .i64 0, .string ⟨#[]⟩, .int .i64 5]) (by simp [results, Try.results13, go_sem]) rfl ⟨?_, Below.refl _ _⟩
        exact ret_iisi (unhide HE).2.1.symm (unhide HE).2.2.1.symm (unhide HE).2.2.2.symm (unhide HZ).symm
      · have d1 : decide (n < 8) = false := by simpa using h1
        have d2 : decide ((s.size : Int) < n) = true := by simpa using h2
        go_enter Try.func13, Try.ntmps13
        go_wp2_with fail
        refine (unhide H0).mono ?_
        rintro e w1 ⟨rfl, rfl⟩
        go_wp2_with fail
        refine (unhide H2).mono ?_
        rintro e w1 ⟨rfl, rfl⟩
        go_wp2_with fail
        refine (unhide H4).mono ?_
        rintro e w1 ⟨rfl, rfl⟩
        go_wp2_with fail
        refine bodyPost_ret (v := .tuple #[.int .i64 0, .int .i64 0, .string ⟨#[]⟩, .int .i64 5]) (by simp [results, Try.results13, go_sem]) rfl ⟨?_, Below.refl _ _⟩
        exact ret_iisi (unhide HE).2.1.symm (unhide HE).2.2.1.symm (unhide HE).2.2.2.symm (unhide HZ).symm

set_option maxHeartbeats 1000000 in
theorem rsize_any (s : ByteArray) (w : World) (hs : s.size ≤ 281474976710656) :
    Calls Try.prog 15 #[.string s] w fun e w' => e = .returned (.tuple #[.int .i64 (measN s), .bool (measE s == 0)]) ∧ Below w.heap.size w w' := by
  have HP := hide (rparse_any s w hs)
  have hC := parC_size s
  have HN : Hid (measE s = 0 → (8 + ((parC s).size : Int)) = measN s) := fun he => by
    obtain ⟨h8, n0, n1⟩ := measE_ok he
    obtain ⟨e1, _, _, e4⟩ := meas_yes he
    rw [e1, e4, Oct.ext_size _ _ _ (by omega)]; omega
  have HN0 : Hid (¬ measE s = 0 → (0 : Int) = measN s) := fun he => (meas_no he).1.symm
  generalize parA s = a at *
  generalize parB s = b at *
  generalize parC s = c at *
  generalize measN s = n at *
  generalize measE s = x at *
  by_cases he : x = 0
  · have d : (x != 0) = false := by simpa using he
    have HR := hide (unhide HN he)
    have HX : Hid (true = (x == 0)) := by show _ = _; rw [he]; rfl
    clear HN HN0 he
    go_enter Try.func15, Try.ntmps15
    go_wp2_with fail
    refine (unhide HP).mono ?_
    rintro e w1 ⟨rfl, hb1⟩
    have HB := hide hb1
    clear hb1
    go_wp2_with fail
    go_ret2
    exact ⟨ret_ib (unhide HR) HX.out, unhide HB⟩
  · have d : (x != 0) = true := by simpa using he
    have HR := hide (unhide HN0 he)
    have HX : Hid (false = (x == 0)) := by show _ = _; simp [he]
    clear HN HN0 he
    go_enter Try.func15, Try.ntmps15
    go_wp2_with fail
    refine (unhide HP).mono ?_
    rintro e w1 ⟨rfl, hb1⟩
    have HB := hide hb1
    clear hb1
    go_wp2_with fail
    go_ret2
    exact ⟨ret_ib (unhide HR) HX.out, unhide HB⟩
end Go.Proofs.Yteijemjbpfkghaa
