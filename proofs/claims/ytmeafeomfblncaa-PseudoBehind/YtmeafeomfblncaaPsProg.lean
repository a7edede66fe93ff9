/- What covered, front, Check, Fill and Verify of package pseudo compute: one contract a function. -/
import Derived.Test.YtmeafeomfblncaaPsMath
namespace Go.Proofs.Ytmeafeomfblncaa
open Go.ChangeShapes Go.WideShapes Go.ChangeAt Go.RowKit

set_option maxHeartbeats 1000000 in
theorem covered_any (p : Int) (s : ByteArray) (w : World) (hs : s.size ≤ 281474976710656) :
    Calls Try.prog 20 #[.int .i64 p, .string s] w fun e w' => e = .returned (.string (cov p s)) ∧ w' = w := by
  have HS := hide (size_any s w hs)
  cases h1 : p == 17 with
  | false =>
    have HC := hide (cov_no1 (s := s) h1)
    have h1' : (p != 17) = true := by simp [bne, h1]
    generalize cov p s = C at *
    go_enter Try.func20, Try.ntmps20
    go_wp2_with fail
    go_ret
    exact ⟨ret_str HC.out.symm, rfl⟩
  | true =>
    have h1' : (p != 17) = false := by simp [bne, h1]
    cases h2 : measE s == 0 with
    | false =>
      have HC := hide (cov_no2 (p := p) h2)
      rw [h2] at HS
      generalize cov p s = C at *
      generalize measN s = n at *
      generalize measE s = x at *
      go_enter Try.func20, Try.ntmps20
      go_wp2_with fail
      refine (unhide HS).mono ?_
      rintro e w1 ⟨rfl, rfl⟩
      go_wp2_with fail
      go_ret
      exact ⟨ret_str HC.out.symm, rfl⟩
    | true =>
      have HC := hide (cov_yes h1 h2)
      obtain ⟨n0, n1, _⟩ := measN_range h2
      rw [h2] at HS
      obtain ⟨k, hk⟩ : ∃ k : Nat, measN s = k := ⟨(measN s).toNat, by omega⟩
      rw [hk] at HS HC n1
      rw [Int.toNat_natCast] at HC
      have n2 : k ≤ s.size := by omega
      clear hk n0
      generalize cov p s = C at *
      generalize measE s = x at *
      go_enter Try.func20, Try.ntmps20
      go_wp2_with fail
      refine (unhide HS).mono ?_
      rintro e w1 ⟨rfl, rfl⟩
      go_wp2_with fail
      go_ret
      exact ⟨ret_str HC.out.symm, rfl⟩

set_option maxHeartbeats 1000000 in
theorem front_any (p src dst : Int) (n : Nat) (w : World) (s0 : 0 ≤ src) (s1 : src ≤ 4294967295) (d0 : 0 ≤ dst) (d1 : dst ≤ 4294967295) (hn : n ≤ 281474976710656) :
    Calls Try.prog 22 #[.int .i64 p, .int .u32 src, .int .u32 dst, .int .i64 n] w fun e w' => e = .returned (.string (frontS p src dst n)) ∧ Below w.heap.size w w' := by
  have H1 := hide (put_any 4 src)
  have H2 := hide (put_any 4 dst)
  have H3 := hide (put_any 1 0)
  have H4 := hide (put_any 1 p)
  have H5 := hide (put_any 2 ((n : Int) % 65536))
  have HF : Hid (frontS p src dst n = laid 4 src ++ laid 4 dst ++ laid 1 0 ++ laid 1 p ++ laid 2 ((n : Int) % 65536)) := rfl
  have z1 := laid_size 4 src
  have z2 := laid_size 4 dst
  have z3 := laid_size 1 0
  have z4 := laid_size 1 p
  have z5 := laid_size 2 ((n : Int) % 65536)
  have k0 : (n : Int).tmod 65536 = (n : Int) % 65536 := Int.tmod_eq_emod_of_nonneg (by omega)
  have m0 : 0 ≤ (n : Int) % 65536 := by omega
  have m1 : (n : Int) % 65536 ≤ 65535 := by omega
  generalize frontS p src dst n = F at *
  generalize laid 4 src = A at *
  generalize laid 4 dst = B at *
  generalize laid 1 0 = C at *
  generalize laid 1 p = D at *
  generalize laid 2 ((n : Int) % 65536) = E at *
  generalize laidB 4 src = b1 at *
  generalize laidB 4 dst = b2 at *
  generalize laidB 1 0 = b3 at *
  generalize laidB 1 p = b4 at *
  generalize laidB 2 ((n : Int) % 65536) = b5 at *
  have a1 := add_run A B (by omega) (by omega)
  have y1 : (A ++ B).size ≤ 8 := by rw [ByteArray.size_append]; omega
  generalize A ++ B = M1 at *
  have a2 := add_run M1 C (by omega) (by omega)
  have y2 : (M1 ++ C).size ≤ 12 := by rw [ByteArray.size_append]; omega
  generalize M1 ++ C = M2 at *
  have a3 := add_run M2 D (by omega) (by omega)
  have y3 : (M2 ++ D).size ≤ 16 := by rw [ByteArray.size_append]; omega
  generalize M2 ++ D = M3 at *
  have a4 := add_run M3 E (by omega) (by omega)
  clear z1 z2 z3 z4 z5 y1 y2 y3
  go_enter Try.func22, Try.ntmps22
  go_wp2_with fail
  refine (unhide H1 _).mono ?_
  rintro e w1 ⟨rfl, hb1⟩
  have HB1 := hide hb1
  clear hb1
  go_wp2_with fail
  refine (unhide H2 _).mono ?_
  rintro e w2 ⟨rfl, hb2⟩
  have HB2 := hide (Below.then (unhide HB1) hb2)
  clear hb2
  go_wp2_with fail
  refine (unhide H3 _).mono ?_
  rintro e w3 ⟨rfl, hb3⟩
  have HB3 := hide (Below.then (unhide HB2) hb3)
  clear hb3
  go_wp2_with fail
  refine (unhide H4 _).mono ?_
  rintro e w4 ⟨rfl, hb4⟩
  have HB4 := hide (Below.then (unhide HB3) hb4)
  clear hb4
  go_wp2_with fail
  refine (unhide H5 _).mono ?_
  rintro e w5 ⟨rfl, hb5⟩
  have HB5 := hide (Below.then (unhide HB4) hb5)
  clear hb5
  go_wp2_with fail
  go_ret
  exact ⟨ret_str HF.out.symm, unhide HB5⟩
end Go.Proofs.Ytmeafeomfblncaa
