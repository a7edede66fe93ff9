/- What Verify of package pseudo computes. -/
import Derived.Test.YtmeafeomfblncaaPsCheck
namespace Go.Proofs.Ytmeafeomfblncaa
open Go.ChangeShapes Go.WideShapes Go.ChangeAt Go.RowKit

theorem verE_9 {p src dst : Int} {s : ByteArray} (h : plcB p = false) : verE p src dst s = 9 := by unfold verE; rw [if_pos h]
theorem verE_2 {p src dst : Int} {s : ByteArray} (h : plcB p = true) (h2 : gotB (cov p s) (plc p) 2 = false) : verE p src dst s = 2 := by
  unfold verE; rw [if_neg (by rw [h]; decide), if_pos h2]
theorem verE_0 {p src dst : Int} {s : ByteArray} (h : plcB p = true) (h2 : gotB (cov p s) (plc p) 2 = true) (h3 : ((p == 17) && (got (cov p s) (plc p) 2 == 0)) = true) : verE p src dst s = 0 := by
  unfold verE; rw [if_neg (by rw [h]; decide), if_neg (by rw [h2]; decide), if_pos h3]
theorem verE_s {p src dst : Int} {s : ByteArray} (h : plcB p = true) (h2 : gotB (cov p s) (plc p) 2 = true) (h3 : ((p == 17) && (got (cov p s) (plc p) 2 == 0)) = false) :
    verE p src dst s = if Ck.sum (frontS p src dst (cov p s).size ++ cov p s).data.toList = 65535 then 0 else 7 := by
  unfold verE; rw [if_neg (by rw [h]; decide), if_neg (by rw [h2]; decide), if_neg (by rw [h3]; decide)]

set_option maxHeartbeats 2000000 in
theorem pverify_any (p src dst : Int) (s : ByteArray) (w : World) (hp : I64 p) (hS : U32 src) (hD : U32 dst) (hs : s.size ≤ 140737488360000) :
    Calls Try.prog 16 #[.int .i64 p, .int .u32 src, .int .u32 dst, .string s] w fun e w' => e = .returned (.int .i64 (verE p src dst s)) ∧ Below w.heap.size w w' := by
  have HP := hide (place_any p w hp)
  have HC := hide (fun u => covered_any p s u (by omega))
  cases hb : plcB p with
  | false =>
    have HV := hide (verE_9 (src := src) (dst := dst) (s := s) hb)
    rw [hb] at HP
    generalize verE p src dst s = V at *
    generalize plc p = at0 at *
    clear HC hp hS hD
    go_enter Try.func16, Try.ntmps16
    go_wp2_with fail
    refine (unhide HP).mono ?_
    rintro e w1 ⟨rfl, hb1⟩
    have HB1 := hide hb1
    clear hb1
    go_wp2_with fail
    go_ret
    exact ⟨ret_int HV.out.symm, unhide HB1⟩
  | true =>
    rw [hb] at HP
    have hcs := cov_size p s
    have HG := hide (fun u => get_any (cov p s) (plc p) 2 u (by unfold maxLen; omega))
    cases hg : gotB (cov p s) (plc p) 2 with
    | false =>
      have HV := hide (verE_2 (src := src) (dst := dst) hb hg)
      rw [hg] at HG
      generalize verE p src dst s = V at *
      generalize got (cov p s) (plc p) 2 = g at *
      generalize plc p = at0 at *
      generalize cov p s = C at *
      clear hp hS hD
      go_enter Try.func16, Try.ntmps16
      go_wp2_with fail
      refine (unhide HP).mono ?_
      rintro e w1 ⟨rfl, hb1⟩
      have HB1 := hide hb1
      clear hb1
      go_wp2_with fail
      refine (unhide HC _).mono ?_
      rintro e w2 ⟨rfl, rfl⟩
      go_wp2_with fail
      refine (unhide HG _).mono ?_
      rintro e w3 ⟨rfl, rfl⟩
      go_wp2_with fail
      go_ret
      exact ⟨ret_int HV.out.symm, unhide HB1⟩
    | true =>
      rw [hg] at HG
      have HV0 := hide (verE_0 (src := src) (dst := dst) hb hg)
      have HVs := hide (verE_s (src := src) (dst := dst) hb hg)
      have HF := hide (fun u => front_any p src dst (cov p s).size u hS.1 hS.2 hD.1 hD.2 (by omega))
      have hf := frontS_size p src dst (cov p s).size
      generalize verE p src dst s = V at *
      generalize got (cov p s) (plc p) 2 = g at *
      generalize plc p = at0 at *
      generalize cov p s = C at *
      generalize frontS p src dst C.size = F at *
      have a1 := add_run F C (by omega) (by omega)
      have HK := hide (fun u => sum_any (F ++ C) u (by rw [ByteArray.size_append]; omega))
      have k0 := Ck.sum_lo (F ++ C).data.toList
      have k1 := Ck.sum_hi (F ++ C).data.toList
      generalize Ck.sum (F ++ C).data.toList = K at *
      generalize F ++ C = M at *
      clear hp hS hD hf
      cases h17 : p == 17 with
      | false =>
        have HVx := hide (unhide HVs (by rw [h17]; rfl))
        clear HV0 HVs
        cases hk : K != 65535 with
        | false =>
          have HV := hide (HVx.out.trans (if_pos (show K = 65535 by simpa [bne] using hk)))
          clear HVx
          go_enter Try.func16, Try.ntmps16
          go_wp2_with fail
          refine (unhide HP).mono ?_
          rintro e w1 ⟨rfl, hb1⟩
          have HB1 := hide hb1
          clear hb1
          go_wp2_with fail
          refine (unhide HC _).mono ?_
          rintro e w2 ⟨rfl, rfl⟩
          go_wp2_with fail
          refine (unhide HG _).mono ?_
          rintro e w3 ⟨rfl, rfl⟩
          go_wp2_with fail
          refine (unhide HF _).mono ?_
          rintro e w4 ⟨rfl, hb4⟩
          have HB4 := hide (Below.then (unhide HB1) hb4)
          clear hb4
          go_wp2_with fail
          refine (unhide HK _).mono ?_
          rintro e w5 ⟨rfl, hb5⟩
          have HB5 := hide (Below.then (unhide HB4) hb5)
          clear hb5
          go_wp2_with fail
          go_ret
          exact ⟨ret_int HV.out.symm, unhide HB5⟩
        | true =>
          have HV := hide (HVx.out.trans (if_neg (show ¬ K = 65535 by simpa [bne] using hk)))
          clear HVx
          go_enter Try.func16, Try.ntmps16
          go_wp2_with fail
          refine (unhide HP).mono ?_
          rintro e w1 ⟨rfl, hb1⟩
          have HB1 := hide hb1
          clear hb1
          go_wp2_with fail
          refine (unhide HC _).mono ?_
          rintro e w2 ⟨rfl, rfl⟩
          go_wp2_with fail
          refine (unhide HG _).mono ?_
          rintro e w3 ⟨rfl, rfl⟩
          go_wp2_with fail
          refine (unhide HF _).mono ?_
          rintro e w4 ⟨rfl, hb4⟩
          have HB4 := hide (Below.then (unhide HB1) hb4)
          clear hb4
          go_wp2_with fail
          refine (unhide HK _).mono ?_
          rintro e w5 ⟨rfl, hb5⟩
          have HB5 := hide (Below.then (unhide HB4) hb5)
          clear hb5
          go_wp2_with fail
          go_ret
          exact ⟨ret_int HV.out.symm, unhide HB5⟩
      | true =>
        cases h0 : g == 0 with
        | false =>
          have HVx := hide (unhide HVs (by rw [h17, h0]; rfl))
          clear HV0 HVs
          cases hk : K != 65535 with
          | false =>
            have HV := hide (HVx.out.trans (if_pos (show K = 65535 by simpa [bne] using hk)))
            clear HVx
            go_enter Try.func16, Try.ntmps16
            go_wp2_with fail
            refine (unhide HP).mono ?_
            rintro e w1 ⟨rfl, hb1⟩
            have HB1 := hide hb1
            clear hb1
            go_wp2_with fail
            refine (unhide HC _).mono ?_
            rintro e w2 ⟨rfl, rfl⟩
            go_wp2_with fail
            refine (unhide HG _).mono ?_
            rintro e w3 ⟨rfl, rfl⟩
            go_wp2_with fail
            refine (unhide HF _).mono ?_
            rintro e w4 ⟨rfl, hb4⟩
            have HB4 := hide (Below.then (unhide HB1) hb4)
            clear hb4
            go_wp2_with fail
            refine (unhide HK _).mono ?_
            rintro e w5 ⟨rfl, hb5⟩
            have HB5 := hide (Below.then (unhide HB4) hb5)
            clear hb5
            go_wp2_with fail
            go_ret
            exact ⟨ret_int HV.out.symm, unhide HB5⟩
          | true =>
            have HV := hide (HVx.out.trans (if_neg (show ¬ K = 65535 by simpa [bne] using hk)))
            clear HVx
            go_enter Try.func16, Try.ntmps16
            go_wp2_with fail
            refine (unhide HP).mono ?_
            rintro e w1 ⟨rfl, hb1⟩
            have HB1 := hide hb1
            clear hb1
            go_wp2_with fail
            refine (unhide HC _).mono ?_
            rintro e w2 ⟨rfl, rfl⟩
            go_wp2_with fail
            refine (unhide HG _).mono ?_
            rintro e w3 ⟨rfl, rfl⟩
            go_wp2_with fail
            refine (unhide HF _).mono ?_
            rintro e w4 ⟨rfl, hb4⟩
            have HB4 := hide (Below.then (unhide HB1) hb4)
            clear hb4
            go_wp2_with fail
            refine (unhide HK _).mono ?_
            rintro e w5 ⟨rfl, hb5⟩
            have HB5 := hide (Below.then (unhide HB4) hb5)
            clear hb5
            go_wp2_with fail
            go_ret
            exact ⟨ret_int HV.out.symm, unhide HB5⟩
        | true =>
          have HV := hide (unhide HV0 (by rw [h17, h0]; rfl))
          clear HV0 HVs
          go_enter Try.func16, Try.ntmps16
          go_wp2_with fail
          refine (unhide HP).mono ?_
          rintro e w1 ⟨rfl, hb1⟩
          have HB1 := hide hb1
          clear hb1
          go_wp2_with fail
          refine (unhide HC _).mono ?_
          rintro e w2 ⟨rfl, rfl⟩
          go_wp2_with fail
          refine (unhide HG _).mono ?_
          rintro e w3 ⟨rfl, rfl⟩
          go_wp2_with fail
          go_ret
          exact ⟨ret_int HV.out.symm, unhide HB1⟩
end Go.Proofs.Ytmeafeomfblncaa
