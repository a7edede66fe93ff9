/- What Check, Fill and Verify of package pseudo compute: one contract a function. -/
import Derived.Test.YtmeafeomfblncaaPsProg
namespace Go.Proofs.Ytmeafeomfblncaa
open Go.ChangeShapes Go.WideShapes Go.ChangeAt Go.RowKit

def I64 (p : Int) : Prop := -9223372036854775808 ≤ p ∧ p ≤ 9223372036854775807
def U32 (x : Int) : Prop := 0 ≤ x ∧ x ≤ 4294967295
theorem chkN_no {p src dst : Int} {s : ByteArray} (h : chkB p s = false) : chkN p src dst s = 0 := by unfold chkN; rw [if_neg (by rw [h]; decide)]
theorem chkN_plain {p src dst : Int} {s : ByteArray} (h : chkB p s = true) (h2 : ((p == 17) && (chk0 p src dst s == 0)) = false) : chkN p src dst s = chk0 p src dst s := by unfold chkN; rw [if_pos h, if_neg (by rw [h2]; decide)]
theorem chkN_full {p src dst : Int} {s : ByteArray} (h : chkB p s = true) (h2 : ((p == 17) && (chk0 p src dst s == 0)) = true) : chkN p src dst s = 65535 := by unfold chkN; rw [if_pos h, if_pos h2]

set_option maxHeartbeats 2000000 in
theorem pcheck_any (p src dst : Int) (s : ByteArray) (w : World) (hp : I64 p) (hS : U32 src) (hD : U32 dst) (hs : s.size ≤ 140737488360000) :
    Calls Try.prog 10 #[.int .i64 p, .int .u32 src, .int .u32 dst, .string s] w fun e w' => e = .returned (.tuple #[.int .u16 (chkN p src dst s), .bool (chkB p s)]) ∧ Below w.heap.size w w' := by
  have HP := hide (place_any p w hp)
  have HC := hide (fun u => covered_any p s u (by omega))
  cases hb : plcB p with
  | false =>
    have hcb : chkB p s = false := by unfold chkB; rw [hb]; rfl
    have HN := hide (chkN_no (src := src) (dst := dst) hcb)
    have HB := hide hcb
    rw [hb] at HP
    generalize chkN p src dst s = N at *
    generalize chkB p s = cb at *
    generalize plc p = at0 at *
    clear hcb HC hp hS hD
    go_enter Try.func10, Try.ntmps10
    go_wp2_with fail
    refine (unhide HP).mono ?_
    rintro e w1 ⟨rfl, hb1⟩
    have HB1 := hide hb1
    clear hb1
    go_wp2_with fail
    go_ret2
    exact ⟨ret_kb HN.out.symm HB.out.symm, unhide HB1⟩
  | true =>
    rw [hb] at HP
    have HT := hide (fun u => set_any (cov p s) (plc p) 2 0 u (by have := cov_size p s; unfold maxLen; omega))
    cases hc : setB (cov p s) (plc p) 2 0 with
    | false =>
      have hcb : chkB p s = false := by unfold chkB; rw [hb, hc]; rfl
      have HN := hide (chkN_no (src := src) (dst := dst) hcb)
      have HB := hide hcb
      rw [hc] at HT
      generalize chkN p src dst s = N at *
      generalize chkB p s = cb at *
      generalize set (cov p s) (plc p) 2 0 = Z at *
      generalize plc p = at0 at *
      generalize cov p s = C at *
      clear hcb hp hS hD
      go_enter Try.func10, Try.ntmps10
      go_wp2_with fail
      refine (unhide HP).mono ?_
      rintro e w1 ⟨rfl, hb1⟩
      have HB1 := hide hb1
      clear hb1
      go_wp2_with fail
      refine (unhide HC _).mono ?_
      rintro e w2 ⟨rfl, rfl⟩
      go_wp2_with fail
      refine (unhide HT _).mono ?_
      rintro e w3 ⟨rfl, hb3⟩
      have HB3 := hide (Below.then (unhide HB1) hb3)
      clear hb3
      go_wp2_with fail
      go_ret2
      exact ⟨ret_kb HN.out.symm HB.out.symm, unhide HB3⟩
    | true =>
      have hcb : chkB p s = true := by unfold chkB; rw [hb, hc]; rfl
      have hz : (zeroed p s).size ≤ 140737488360000 := by rw [zeroed_size hcb]; have := cov_size p s; omega
      have e0 : chk0 p src dst s = 65535 - Ck.sum (frontS p src dst (zeroed p s).size ++ zeroed p s).data.toList := by unfold chk0; rw [zeroed_size hcb]
      have HF := hide (fun u => front_any p src dst (zeroed p s).size u hS.1 hS.2 hD.1 hD.2 (by omega))
      have hf := frontS_size p src dst (zeroed p s).size
      have c0 := chk0_lo p src dst s
      have c1 := chk0_hi p src dst s
      have HB := hide hcb
      have HN1 := hide (chkN_plain (src := src) (dst := dst) hcb)
      have HN2 := hide (chkN_full (src := src) (dst := dst) hcb)
      rw [hc] at HT
      change Hid (∀ u, Calls _ _ _ u fun e w' => e = .returned (.tuple #[.string (zeroed p s), .bool true]) ∧ _) at HT
      generalize chkN p src dst s = N at *
      generalize chkB p s = cb at *
      generalize chk0 p src dst s = K at *
      generalize zeroed p s = Z at *
      generalize plc p = at0 at *
      generalize cov p s = C at *
      generalize frontS p src dst Z.size = F at *
      have a1 := add_run F Z (by omega) (by omega)
      have HK := hide (fun u => check_any (F ++ Z) u (by rw [ByteArray.size_append]; omega))
      rw [← e0] at HK
      generalize hM : F ++ Z = M at *
      clear hcb hp hS hD hf e0 hM
      cases h17 : p == 17 with
      | false =>
        have HN := hide (unhide HN1 (by rw [h17]; rfl))
        clear HN1 HN2
        go_enter Try.func10, Try.ntmps10
        go_wp2_with fail
        refine (unhide HP).mono ?_
        rintro e w1 ⟨rfl, hb1⟩
        have HB1 := hide hb1
        clear hb1
        go_wp2_with fail
        refine (unhide HC _).mono ?_
        rintro e w2 ⟨rfl, rfl⟩
        go_wp2_with fail
        refine (unhide HT _).mono ?_
        rintro e w3 ⟨rfl, hb3⟩
        have HB3 := hide (Below.then (unhide HB1) hb3)
        clear hb3
        go_wp2_with fail
        refine (unhide HF _).mono ?_
        rintro e w4 ⟨rfl, hb4⟩
        have HB4 := hide (Below.then (unhide HB3) hb4)
        clear hb4
        go_wp2_with fail
        refine (unhide HK _).mono ?_
        rintro e w5 ⟨rfl, hb5⟩
        have HB5 := hide (Below.then (unhide HB4) hb5)
        clear hb5
        go_wp2_with fail
        go_ret2
        exact ⟨ret_kb HN.out.symm HB.out.symm, unhide HB5⟩
      | true =>
        cases hk : K == 0 with
        | false =>
          have HN := hide (unhide HN1 (by rw [h17, hk]; rfl))
          clear HN1 HN2
          go_enter Try.func10, Try.ntmps10
          go_wp2_with fail
          refine (unhide HP).mono ?_
          rintro e w1 ⟨rfl, hb1⟩
          have HB1 := hide hb1
          clear hb1
          go_wp2_with fail
          refine (unhide HC _).mono ?_
          rintro e w2 ⟨rfl, rfl⟩
          go_wp2_with fail
          refine (unhide HT _).mono ?_
          rintro e w3 ⟨rfl, hb3⟩
          have HB3 := hide (Below.then (unhide HB1) hb3)
          clear hb3
          go_wp2_with fail
          refine (unhide HF _).mono ?_
          rintro e w4 ⟨rfl, hb4⟩
          have HB4 := hide (Below.then (unhide HB3) hb4)
          clear hb4
          go_wp2_with fail
          refine (unhide HK _).mono ?_
          rintro e w5 ⟨rfl, hb5⟩
          have HB5 := hide (Below.then (unhide HB4) hb5)
          clear hb5
          go_wp2_with fail
          go_ret2
          exact ⟨ret_kb HN.out.symm HB.out.symm, unhide HB5⟩
        | true =>
          have HN := hide (unhide HN2 (by rw [h17, hk]; rfl))
          clear HN1 HN2
          go_enter Try.func10, Try.ntmps10
          go_wp2_with fail
          refine (unhide HP).mono ?_
          rintro e w1 ⟨rfl, hb1⟩
          have HB1 := hide hb1
          clear hb1
          go_wp2_with fail
          refine (unhide HC _).mono ?_
          rintro e w2 ⟨rfl, rfl⟩
          go_wp2_with fail
          refine (unhide HT _).mono ?_
          rintro e w3 ⟨rfl, hb3⟩
          have HB3 := hide (Below.then (unhide HB1) hb3)
          clear hb3
          go_wp2_with fail
          refine (unhide HF _).mono ?_
          rintro e w4 ⟨rfl, hb4⟩
          have HB4 := hide (Below.then (unhide HB3) hb4)
          clear hb4
          go_wp2_with fail
          refine (unhide HK _).mono ?_
          rintro e w5 ⟨rfl, hb5⟩
          have HB5 := hide (Below.then (unhide HB4) hb5)
          clear hb5
          go_wp2_with fail
          go_ret2
          exact ⟨ret_kb HN.out.symm HB.out.symm, unhide HB5⟩

theorem fillB_no {p src dst : Int} {s : ByteArray} (h : chkB p s = false) : fillB p src dst s = false ∧ fillS p src dst s = ⟨#[]⟩ := by
  unfold fillB fillS; rw [h]; exact ⟨rfl, if_neg (by decide)⟩
theorem fillB_yes {p src dst : Int} {s : ByteArray} (h : chkB p s = true) : fillB p src dst s = setB s (plc p) 2 (chkN p src dst s) ∧ fillS p src dst s = set s (plc p) 2 (chkN p src dst s) := by
  unfold fillB fillS; rw [h]; exact ⟨rfl, if_pos rfl⟩

set_option maxHeartbeats 2000000 in
theorem pfill_any (p src dst : Int) (s : ByteArray) (w : World) (hp : I64 p) (hS : U32 src) (hD : U32 dst) (hs : s.size ≤ 140737488360000) :
    Calls Try.prog 12 #[.int .i64 p, .int .u32 src, .int .u32 dst, .string s] w fun e w' => e = .returned (.tuple #[.string (fillS p src dst s), .bool (fillB p src dst s)]) ∧ Below w.heap.size w w' := by
  have HC := hide (pcheck_any p src dst s w hp hS hD hs)
  have HP := hide (fun u => place_any p u hp)
  have HT := hide (fun u => set_any s (plc p) 2 (chkN p src dst s) u (by unfold maxLen; omega))
  have c0 := chkN_lo p src dst s
  have c1 := chkN_hi p src dst s
  cases hb : chkB p s with
  | false =>
    have HF := hide (fillB_no (src := src) (dst := dst) hb)
    rw [hb] at HC
    generalize chkN p src dst s = N at *
    generalize fillS p src dst s = FT at *
    generalize fillB p src dst s = FB at *
    clear hp hS hD HT
    go_enter Try.func12, Try.ntmps12
    go_wp2_with fail
    refine (unhide HC).mono ?_
    rintro e w1 ⟨rfl, hb1⟩
    have HB1 := hide hb1
    clear hb1
    go_wp2_with fail
    go_ret2
    exact ⟨ret_sb HF.out.2.symm HF.out.1.symm, unhide HB1⟩
  | true =>
    have HF := hide (fillB_yes (src := src) (dst := dst) hb)
    rw [hb] at HC
    generalize chkN p src dst s = N at *
    generalize fillS p src dst s = FT at *
    generalize fillB p src dst s = FB at *
    generalize plc p = at0 at *
    generalize plcB p = atB at *
    generalize set s at0 2 N = Z at *
    generalize setB s at0 2 N = ZB at *
    clear hp hS hD
    go_enter Try.func12, Try.ntmps12
    go_wp2_with fail
    refine (unhide HC).mono ?_
    rintro e w1 ⟨rfl, hb1⟩
    have HB1 := hide hb1
    clear hb1
    go_wp2_with fail
    refine (unhide HP _).mono ?_
    rintro e w2 ⟨rfl, hb2⟩
    have HB2 := hide (Below.then (unhide HB1) hb2)
    clear hb2
    go_wp2_with fail
    refine (unhide HT _).mono ?_
    rintro e w3 ⟨rfl, hb3⟩
    have HB3 := hide (Below.then (unhide HB2) hb3)
    clear hb3
    go_wp2_with fail
    go_ret2
    exact ⟨ret_sb HF.out.2.symm HF.out.1.symm, unhide HB3⟩
end Go.Proofs.Ytmeafeomfblncaa
