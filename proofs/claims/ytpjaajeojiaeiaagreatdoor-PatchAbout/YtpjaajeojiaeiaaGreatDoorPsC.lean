/- Contracts and mathematics of the layers below (PsRef). -/
import Derived.Test.YtpjaajeojiaeiaaGreatDoorPsB
/- What covered, head, Check, Fill and Verify of the reference of chapter 8 compute: the same as the program's. -/
namespace Go.Proofs.YtpjaajeojiaeiaaGreatDoor.Ps
open Go.ChangeShapes Go.WideShapes Go.ChangeAt Go.RowKit

theorem laid_one_zero : laid 1 0 = ⟨#[0]⟩ := by
 unfold laid
 rw [if_pos ((laidB_iff 1 0).2 ⟨⟨by decide, by decide⟩, by decide, by decide⟩)]
 rfl
theorem setB_zero (s : ByteArray) (pos : Int) : setB s pos 2 0 = gotB s pos 2 := by
 unfold setB
 rw [(laidB_iff 2 0).2 ⟨⟨by decide, by decide⟩, by decide, by decide⟩, Bool.and_true]
theorem chkB_got (p : Int) (s : ByteArray) : chkB p s = (plcB p && gotB (cov p s) (plc p) 2) := by unfold chkB; rw [setB_zero]
theorem got_ext {s : ByteArray} {k : Nat} {pos : Int} (hk : k ≤ s.size) (h : gotB (s.extract 0 k) pos 2 = true) : gotB s pos 2 = true ∧ got (s.extract 0 k) pos 2 = got s pos 2 := by
 obtain ⟨h1, h3, h4⟩ := (gotB_iff _ _ _).1 h
 have hz : (s.extract 0 k).size = k := by rw [Oct.ext_size _ _ _ (by omega)]; omega
 have hg : gotB s pos 2 = true := (gotB_iff _ _ _).2 ⟨h1, h3, by omega⟩
 refine ⟨hg, ?_⟩
 rw [got, got, if_pos h, if_pos hg, Oct.ext_list, List.drop_zero, List.drop_take, List.take_take]
 rw [Nat.min_eq_left (by omega)]
theorem got_cov {p : Int} {s : ByteArray} {pos : Int} (h : gotB (cov p s) pos 2 = true) : got (cov p s) pos 2 = got s pos 2 := by
 cases h1 : p == 17 with
 | false => rw [cov_no1 h1]
 | true =>
  cases h2 : measE s == 0 with
  | false => rw [cov_no2 h2]
  | true =>
   obtain ⟨n0, n1, _⟩ := measN_range h2
   rw [cov_yes h1 h2] at h ⊢
   exact (got_ext (by omega) h).2

set_option maxHeartbeats 1000000 in
theorem rcov_any (p : Int) (s : ByteArray) (w : World) (hs : s.size ≤ 281474976710656) :
  Calls Tryz.prog 92 #[.int .i64 p, .string s] w fun e w' => e = .returned (.string (cov p s)) ∧ Below w.heap.size w w' := by
 have HS := hide (rsize_any s w hs)
 cases h1 : p == 17 with
 | false =>
  have HC := hide (cov_no1 (s := s) h1)
  generalize cov p s = C at *
  generalize measN s = n at *
  generalize (measE s == 0) = x at *
  go_enter Tryz.func92, Tryz.ntmps92
  go_wp2_with fail
  refine (unhide HS).mono ?_
  rintro e w1 ⟨rfl, hb1⟩
  have HB1 := hide hb1
  clear hb1
  go_wp2_with fail
  go_ret
  exact ⟨ret_str HC.out.symm, unhide HB1⟩
 | true =>
  cases h2 : measE s == 0 with
  | false =>
   have HC := hide (cov_no2 (p := p) h2)
   rw [h2] at HS
   generalize cov p s = C at *
   generalize measN s = n at *
   generalize measE s = x at *
   go_enter Tryz.func92, Tryz.ntmps92
   go_wp2_with fail
   refine (unhide HS).mono ?_
   rintro e w1 ⟨rfl, hb1⟩
   have HB1 := hide hb1
   clear hb1
   go_wp2_with fail
   go_ret
   exact ⟨ret_str HC.out.symm, unhide HB1⟩
  | true =>
   have HC := hide (cov_yes h1 h2)
   obtain ⟨n0, n1, _⟩ := measN_range h2
   rw [h2] at HS
   obtain ⟨k, hk⟩ : ∃ k : Nat, measN s = k := ⟨(measN s).toNat, by omega⟩
   rw [hk] at HS HC n1
   rw [Int.toNat_natCast] at HC
   have n2 : k ≤ s.size := by omega
   clear hk n0
   generalize cov p s = C at *
   generalize measE s = x at *
   go_enter Tryz.func92, Tryz.ntmps92
   go_wp2_with fail
   refine (unhide HS).mono ?_
   rintro e w1 ⟨rfl, hb1⟩
   have HB1 := hide hb1
   clear hb1
   go_wp2_with fail
   go_ret
   exact ⟨ret_str HC.out.symm, unhide HB1⟩

set_option maxHeartbeats 1000000 in
theorem rhead_any (p src dst : Int) (n : Nat) (w : World) (hS : U32 src) (hD : U32 dst) (hn : n ≤ 281474976710656) :
  Calls Tryz.prog 93 #[.int .i64 p, .int .u32 src, .int .u32 dst, .int .i64 n] w fun e w' => e = .returned (.string (frontS p src dst n)) ∧ Below w.heap.size w w' := by
 obtain ⟨s0, s1⟩ := hS
 obtain ⟨d0, d1⟩ := hD
 have H1 := hide (num_any 4 src)
 have H2 := hide (num_any 4 dst)
 have H4 := hide (num_any 1 p)
 have H5 := hide (num_any 2 ((n : Int) % 65536))
 have HC : Hid (frontS p src dst n = laid 4 src ++ laid 4 dst ++ ⟨#[0]⟩ ++ laid 1 p ++ laid 2 ((n : Int) % 65536)) := by show _ = _; rw [← laid_one_zero]; rfl
 have z1 := laid_size 4 src
 have z2 := laid_size 4 dst
 have z4 := laid_size 1 p
 have z5 := laid_size 2 ((n : Int) % 65536)
 have k0 : (n : Int).tmod 65536 = (n : Int) % 65536 := Int.tmod_eq_emod_of_nonneg (by omega)
 have m0 : 0 ≤ (n : Int) % 65536 := by omega
 have m1 : (n : Int) % 65536 ≤ 65535 := by omega
 generalize frontS p src dst n = F at *
 generalize laid 4 src = A at *
 generalize laid 4 dst = B at *
 generalize laid 1 p = D at *
 generalize laid 2 ((n : Int) % 65536) = E at *
 have a1 := add_run A B (by omega) (by omega)
 have y1 : (A ++ B).size ≤ 8 := by rw [ByteArray.size_append]; omega
 generalize A ++ B = M1 at *
 have a2 := add_run M1 ⟨#[0]⟩ (by omega) (by decide)
 have y2 : (M1 ++ (⟨#[0]⟩ : ByteArray)).size ≤ 12 := by rw [ByteArray.size_append]; have : (⟨#[0]⟩ : ByteArray).size = 1 := rfl; omega
 generalize M1 ++ (⟨#[0]⟩ : ByteArray) = M2 at *
 have a3 := add_run M2 D (by omega) (by omega)
 have y3 : (M2 ++ D).size ≤ 16 := by rw [ByteArray.size_append]; omega
 generalize M2 ++ D = M3 at *
 have a4 := add_run M3 E (by omega) (by omega)
 clear z1 z2 z4 z5 y1 y2 y3
 go_enter Tryz.func93, Tryz.ntmps93
 go_wp2_with fail
 refine (unhide H1 _).mono ?_
 rintro e w1 ⟨rfl, hb1⟩
 have HB1 := hide hb1
 clear hb1
 go_wp2_with fail
 refine (unhide H2 _).mono ?_
 rintro e w2 ⟨rfl, hb2⟩
 have HB2 := hide (Below.then (unhide HB1) hb2)
 clear hb2
 go_wp2_with fail
 refine (unhide H4 _).mono ?_
 rintro e w3 ⟨rfl, hb3⟩
 have HB3 := hide (Below.then (unhide HB2) hb3)
 clear hb3
 go_wp2_with fail
 refine (unhide H5 _).mono ?_
 rintro e w4 ⟨rfl, hb4⟩
 have HB4 := hide (Below.then (unhide HB3) hb4)
 clear hb4
 go_wp2_with fail
 go_ret
 exact ⟨ret_str HC.out.symm, unhide HB4⟩

set_option maxHeartbeats 2000000 in
theorem rpcheck_any (p src dst : Int) (s : ByteArray) (w : World) (hS : U32 src) (hD : U32 dst) (hs : s.size ≤ 1048000) :
  Calls Tryz.prog 57 #[.int .i64 p, .int .u32 src, .int .u32 dst, .string s] w fun e w' => e = .returned (.tuple #[.int .u16 (chkN p src dst s), .bool (chkB p s)]) ∧ Below w.heap.size w w' := by
 have HP := hide (rplace_any p w)
 have HC := hide (fun u => rcov_any p s u (by omega))
 have hcs := cov_size p s
 have HT := hide (fun u => rset_any (cov p s) (plc p) 2 0 u (by unfold maxLen; omega))
 cases hb : plcB p with
 | false =>
  have hcb : chkB p s = false := by unfold chkB; rw [hb]; rfl
  have HN := hide (chkN_no (src := src) (dst := dst) hcb)
  have HB := hide hcb
  rw [hb] at HP
  generalize chkN p src dst s = N at *
  generalize chkB p s = cb at *
  generalize set (cov p s) (plc p) 2 0 = Z at *
  generalize setB (cov p s) (plc p) 2 0 = ZB at *
  generalize plc p = at0 at *
  generalize cov p s = C at *
  clear hcb hS hD
  go_enter Tryz.func57, Tryz.ntmps57
  go_wp2_with fail
  refine (unhide HP).mono ?_
  rintro e w1 ⟨rfl, rfl⟩
  go_wp2_with fail
  refine (unhide HC _).mono ?_
  rintro e w2 ⟨rfl, hb2⟩
  have HB2 := hide hb2
  clear hb2
  go_wp2_with fail
  refine (unhide HT _).mono ?_
  rintro e w3 ⟨rfl, hb3⟩
  have HB3 := hide (Below.then (unhide HB2) hb3)
  clear hb3
  go_wp2_with fail
  go_ret2
  exact ⟨ret_kb HN.out.symm HB.out.symm, unhide HB3⟩
 | true =>
  rw [hb] at HP
  cases hc : setB (cov p s) (plc p) 2 0 with
  | false =>
   have hcb : chkB p s = false := by unfold chkB; rw [hb, hc]; rfl
   have HN := hide (chkN_no (src := src) (dst := dst) hcb)
   have HB := hide hcb
   rw [hc] at HT
   generalize chkN p src dst s = N at *
   generalize chkB p s = cb at *
   generalize set (cov p s) (plc p) 2 0 = Z at *
   generalize plc p = at0 at *
   generalize cov p s = C at *
   clear hcb hS hD
   go_enter Tryz.func57, Tryz.ntmps57
   go_wp2_with fail
   refine (unhide HP).mono ?_
   rintro e w1 ⟨rfl, rfl⟩
   go_wp2_with fail
   refine (unhide HC _).mono ?_
   rintro e w2 ⟨rfl, hb2⟩
   have HB2 := hide hb2
   clear hb2
   go_wp2_with fail
   refine (unhide HT _).mono ?_
   rintro e w3 ⟨rfl, hb3⟩
   have HB3 := hide (Below.then (unhide HB2) hb3)
   clear hb3
   go_wp2_with fail
   go_ret2
   exact ⟨ret_kb HN.out.symm HB.out.symm, unhide HB3⟩
  | true =>
   have hcb : chkB p s = true := by unfold chkB; rw [hb, hc]; rfl
   have hz := zeroed_size hcb
   have e0 : chk0 p src dst s = 65535 - Ck.sum (frontS p src dst (cov p s).size ++ zeroed p s).data.toList := rfl
   have HF := hide (fun u => rhead_any p src dst (cov p s).size u hS hD (by omega))
   have hf := frontS_size p src dst (cov p s).size
   have c0 := chk0_lo p src dst s
   have c1 := chk0_hi p src dst s
   have HB := hide hcb
   have HN1 := hide (chkN_plain (src := src) (dst := dst) hcb)
   have HN2 := hide (chkN_full (src := src) (dst := dst) hcb)
   rw [hc] at HT
   change Hid (∀ u, Calls _ _ _ u fun e w' => e = .returned (.tuple #[.string (zeroed p s), .bool true]) ∧ _) at HT
   generalize chkN p src dst s = N at *
   generalize chkB p s = cb at *
   generalize chk0 p src dst s = K at *
   generalize zeroed p s = Z at *
   generalize plc p = at0 at *
   generalize cov p s = C at *
   generalize frontS p src dst C.size = F at *
   have a1 := add_run F Z (by omega) (by omega)
   have HK := hide (fun u => rcheck_any (F ++ Z) u (by rw [ByteArray.size_append]; omega))
   rw [← e0] at HK
   generalize hM : F ++ Z = M at *
   clear hcb hS hD hf e0 hM hz
   cases h17 : p == 17 with
   | false =>
    have HN := hide (unhide HN1 (by rw [h17]; rfl))
    clear HN1 HN2
    go_enter Tryz.func57, Tryz.ntmps57
    go_wp2_with fail
    refine (unhide HP).mono ?_
    rintro e w1 ⟨rfl, rfl⟩
    go_wp2_with fail
    refine (unhide HC _).mono ?_
    rintro e w2 ⟨rfl, hb2⟩
    have HB2 := hide hb2
    clear hb2
    go_wp2_with fail
    refine (unhide HT _).mono ?_
    rintro e w3 ⟨rfl, hb3⟩
    have HB3 := hide (Below.then (unhide HB2) hb3)
    clear hb3
    go_wp2_with fail
    refine (unhide HF _).mono ?_
    rintro e w4 ⟨rfl, hb4⟩
    have HB4 := hide (Below.then (unhide HB3) hb4)
    clear hb4
    go_wp2_with fail
    refine (unhide HK _).mono ?_
    rintro e w5 ⟨rfl, hb5⟩
    have HB5 := hide (Below.then (unhide HB4) hb5)
    clear hb5
    go_wp2_with fail
    go_ret2
    exact ⟨ret_kb HN.out.symm HB.out.symm, unhide HB5⟩
   | true =>
    cases hk : K == 0 with
    | false =>
     have HN := hide (unhide HN1 (by rw [h17, hk]; rfl))
     clear HN1 HN2
     go_enter Tryz.func57, Tryz.ntmps57
     go_wp2_with fail
     refine (unhide HP).mono ?_
     rintro e w1 ⟨rfl, rfl⟩
     go_wp2_with fail
     refine (unhide HC _).mono ?_
     rintro e w2 ⟨rfl, hb2⟩
     have HB2 := hide hb2
     clear hb2
     go_wp2_with fail
     refine (unhide HT _).mono ?_
     rintro e w3 ⟨rfl, hb3⟩
     have HB3 := hide (Below.then (unhide HB2) hb3)
     clear hb3
     go_wp2_with fail
     refine (unhide HF _).mono ?_
     rintro e w4 ⟨rfl, hb4⟩
     have HB4 := hide (Below.then (unhide HB3) hb4)
     clear hb4
     go_wp2_with fail
     refine (unhide HK _).mono ?_
     rintro e w5 ⟨rfl, hb5⟩
     have HB5 := hide (Below.then (unhide HB4) hb5)
     clear hb5
     go_wp2_with fail
     go_ret2
     exact ⟨ret_kb HN.out.symm HB.out.symm, unhide HB5⟩
    | true =>
     have HN := hide (unhide HN2 (by rw [h17, hk]; rfl))
     clear HN1 HN2
     go_enter Tryz.func57, Tryz.ntmps57
     go_wp2_with fail
     refine (unhide HP).mono ?_
     rintro e w1 ⟨rfl, rfl⟩
     go_wp2_with fail
     refine (unhide HC _).mono ?_
     rintro e w2 ⟨rfl, hb2⟩
     have HB2 := hide hb2
     clear hb2
     go_wp2_with fail
     refine (unhide HT _).mono ?_
     rintro e w3 ⟨rfl, hb3⟩
     have HB3 := hide (Below.then (unhide HB2) hb3)
     clear hb3
     go_wp2_with fail
     refine (unhide HF _).mono ?_
     rintro e w4 ⟨rfl, hb4⟩
     have HB4 := hide (Below.then (unhide HB3) hb4)
     clear hb4
     go_wp2_with fail
     refine (unhide HK _).mono ?_
     rintro e w5 ⟨rfl, hb5⟩
     have HB5 := hide (Below.then (unhide HB4) hb5)
     clear hb5
     go_wp2_with fail
     go_ret2
     exact ⟨ret_kb HN.out.symm HB.out.symm, unhide HB5⟩

set_option maxHeartbeats 2000000 in
theorem rpfill_any (p src dst : Int) (s : ByteArray) (w : World) (hS : U32 src) (hD : U32 dst) (hs : s.size ≤ 1048000) :
  Calls Tryz.prog 29 #[.int .i64 p, .int .u32 src, .int .u32 dst, .string s] w fun e w' => e = .returned (.tuple #[.string (fillS p src dst s), .bool (fillB p src dst s)]) ∧ Below w.heap.size w w' := by
 have HC := hide (rpcheck_any p src dst s w hS hD hs)
 have HP := hide (fun u => rplace_any p u)
 have HT := hide (fun u => rset_any s (plc p) 2 (chkN p src dst s) u (by unfold maxLen; omega))
 have c0 := chkN_lo p src dst s
 have c1 := chkN_hi p src dst s
 cases hb : chkB p s with
 | false =>
  have HF := hide (fillB_no (src := src) (dst := dst) hb)
  rw [hb] at HC
  generalize chkN p src dst s = N at *
  generalize fillS p src dst s = FT at *
  generalize fillB p src dst s = FB at *
  clear hS hD HT
  go_enter Tryz.func29, Tryz.ntmps29
  go_wp2_with fail
  refine (unhide HC).mono ?_
  rintro e w1 ⟨rfl, hb1⟩
  have HB1 := hide hb1
  clear hb1
  go_wp2_with fail
  go_ret2
  exact ⟨ret_sb HF.out.2.symm HF.out.1.symm, unhide HB1⟩
 | true =>
  have HF := hide (fillB_yes (src := src) (dst := dst) hb)
  rw [hb] at HC
  generalize chkN p src dst s = N at *
  generalize fillS p src dst s = FT at *
  generalize fillB p src dst s = FB at *
  generalize plc p = at0 at *
  generalize plcB p = atB at *
  generalize set s at0 2 N = Z at *
  generalize setB s at0 2 N = ZB at *
  clear hS hD
  go_enter Tryz.func29, Tryz.ntmps29
  go_wp2_with fail
  refine (unhide HC).mono ?_
  rintro e w1 ⟨rfl, hb1⟩
  have HB1 := hide hb1
  clear hb1
  go_wp2_with fail
  refine (unhide HP _).mono ?_
  rintro e w2 ⟨rfl, rfl⟩
  go_wp2_with fail
  refine (unhide HT _).mono ?_
  rintro e w3 ⟨rfl, hb3⟩
  have HB3 := hide (Below.then (unhide HB1) hb3)
  clear hb3
  go_wp2_with fail
  go_ret2
  exact ⟨ret_sb HF.out.2.symm HF.out.1.symm, unhide HB3⟩

set_option maxHeartbeats 2000000 in
theorem rpverify_any (p src dst : Int) (s : ByteArray) (w : World) (hS : U32 src) (hD : U32 dst) (hs : s.size ≤ 1048000) :
  Calls Tryz.prog 91 #[.int .i64 p, .int .u32 src, .int .u32 dst, .string s] w fun e w' => e = .returned (.int .i64 (verE p src dst s)) ∧ Below w.heap.size w w' := by
 have HP := hide (rplace_any p w)
 have HC := hide (fun u => rpcheck_any p src dst s u hS hD hs)
 cases hb : plcB p with
 | false =>
  have HV := hide (verE_9 (src := src) (dst := dst) (s := s) hb)
  rw [hb] at HP
  generalize verE p src dst s = V at *
  generalize plc p = at0 at *
  clear HC hS hD
  go_enter Tryz.func91, Tryz.ntmps91
  go_wp2_with fail
  refine (unhide HP).mono ?_
  rintro e w1 ⟨rfl, rfl⟩
  go_wp2_with fail
  go_ret
  exact ⟨ret_int HV.out.symm, Below.refl _ _⟩
 | true =>
  rw [hb] at HP
  rw [chkB_got, hb, Bool.true_and] at HC
  cases hg : gotB (cov p s) (plc p) 2 with
  | false =>
   have HV := hide (verE_2 (src := src) (dst := dst) hb hg)
   rw [hg] at HC
   generalize verE p src dst s = V at *
   generalize chkN p src dst s = N at *
   generalize plc p = at0 at *
   clear hS hD
   go_enter Tryz.func91, Tryz.ntmps91
   go_wp2_with fail
   refine (unhide HP).mono ?_
   rintro e w1 ⟨rfl, rfl⟩
   go_wp2_with fail
   refine (unhide HC _).mono ?_
   rintro e w2 ⟨rfl, hb2⟩
   have HB2 := hide hb2
   clear hb2
   go_wp2_with fail
   go_ret
   exact ⟨ret_int HV.out.symm, unhide HB2⟩
  | true =>
   rw [hg] at HC
   have hcs := cov_size p s
   have HG := hide (fun u => rget_any s (plc p) 2 u (by unfold maxLen; omega))
   have HO := hide (fun u => rcov_any p s u (by omega))
   rw [← got_cov hg] at HG
   have HV0 := hide (verE_0 (src := src) (dst := dst) hb hg)
   have HVs := hide (verE_s (src := src) (dst := dst) hb hg)
   have HF := hide (fun u => rhead_any p src dst (cov p s).size u hS hD (by omega))
   have hf := frontS_size p src dst (cov p s).size
   generalize verE p src dst s = V at *
   generalize chkN p src dst s = N at *
   generalize got (cov p s) (plc p) 2 = g at *
   generalize gotB s (plc p) 2 = gB at *
   generalize plc p = at0 at *
   generalize cov p s = C at *
   generalize frontS p src dst C.size = F at *
   have a1 := add_run F C (by omega) (by omega)
   have HK := hide (fun u => rsum_any (F ++ C) u (by rw [ByteArray.size_append]; omega))
   have k0 := Ck.sum_lo (F ++ C).data.toList
   have k1 := Ck.sum_hi (F ++ C).data.toList
   generalize Ck.sum (F ++ C).data.toList = K at *
   generalize F ++ C = M at *
   clear hS hD hf
   cases h17 : p == 17 with
   | false =>
    have HVx := hide (unhide HVs (by rw [h17]; rfl))
    clear HV0 HVs
    cases hk : K == 65535 with
    | true =>
     have HV := hide (HVx.out.trans (if_pos (show K = 65535 by simpa using hk)))
     clear HVx
     go_enter Tryz.func91, Tryz.ntmps91
     go_wp2_with fail
     refine (unhide HP).mono ?_
     rintro e w1 ⟨rfl, rfl⟩
     go_wp2_with fail
     refine (unhide HC _).mono ?_
     rintro e w2 ⟨rfl, hb2⟩
     have HB2 := hide hb2
     clear hb2
     go_wp2_with fail
     refine (unhide HG _).mono ?_
     rintro e w3 ⟨rfl, rfl⟩
     go_wp2_with fail
     refine (unhide HO _).mono ?_
     rintro e w4 ⟨rfl, hb4⟩
     have HB4 := hide (Below.then (unhide HB2) hb4)
     clear hb4
     go_wp2_with fail
     refine (unhide HF _).mono ?_
     rintro e w5 ⟨rfl, hb5⟩
     have HB5 := hide (Below.then (unhide HB4) hb5)
     clear hb5
     go_wp2_with fail
     refine (unhide HK _).mono ?_
     rintro e w6 ⟨rfl, hb6⟩
     have HB6 := hide (Below.then (unhide HB5) hb6)
     clear hb6
     go_wp2_with fail
     go_ret
     exact ⟨ret_int HV.out.symm, unhide HB6⟩
    | false =>
     have HV := hide (HVx.out.trans (if_neg (show ¬ K = 65535 by simpa using hk)))
     clear HVx
     go_enter Tryz.func91, Tryz.ntmps91
     go_wp2_with fail
     refine (unhide HP).mono ?_
     rintro e w1 ⟨rfl, rfl⟩
     go_wp2_with fail
     refine (unhide HC _).mono ?_
     rintro e w2 ⟨rfl, hb2⟩
     have HB2 := hide hb2
     clear hb2
     go_wp2_with fail
     refine (unhide HG _).mono ?_
     rintro e w3 ⟨rfl, rfl⟩
     go_wp2_with fail
     refine (unhide HO _).mono ?_
     rintro e w4 ⟨rfl, hb4⟩
     have HB4 := hide (Below.then (unhide HB2) hb4)
     clear hb4
     go_wp2_with fail
     refine (unhide HF _).mono ?_
     rintro e w5 ⟨rfl, hb5⟩
     have HB5 := hide (Below.then (unhide HB4) hb5)
     clear hb5
     go_wp2_with fail
     refine (unhide HK _).mono ?_
     rintro e w6 ⟨rfl, hb6⟩
     have HB6 := hide (Below.then (unhide HB5) hb6)
     clear hb6
     go_wp2_with fail
     go_ret
     exact ⟨ret_int HV.out.symm, unhide HB6⟩
   | true =>
    cases h0 : g == 0 with
    | false =>
     have HVx := hide (unhide HVs (by rw [h17, h0]; rfl))
     clear HV0 HVs
     cases hk : K == 65535 with
     | true =>
      have HV := hide (HVx.out.trans (if_pos (show K = 65535 by simpa using hk)))
      clear HVx
      go_enter Tryz.func91, Tryz.ntmps91
      go_wp2_with fail
      refine (unhide HP).mono ?_
      rintro e w1 ⟨rfl, rfl⟩
      go_wp2_with fail
      refine (unhide HC _).mono ?_
      rintro e w2 ⟨rfl, hb2⟩
      have HB2 := hide hb2
      clear hb2
      go_wp2_with fail
      refine (unhide HG _).mono ?_
      rintro e w3 ⟨rfl, rfl⟩
      go_wp2_with fail
      refine (unhide HO _).mono ?_
      rintro e w4 ⟨rfl, hb4⟩
      have HB4 := hide (Below.then (unhide HB2) hb4)
      clear hb4
      go_wp2_with fail
      refine (unhide HF _).mono ?_
      rintro e w5 ⟨rfl, hb5⟩
      have HB5 := hide (Below.then (unhide HB4) hb5)
      clear hb5
      go_wp2_with fail
      refine (unhide HK _).mono ?_
      rintro e w6 ⟨rfl, hb6⟩
      have HB6 := hide (Below.then (unhide HB5) hb6)
      clear hb6
      go_wp2_with fail
      go_ret
      exact ⟨ret_int HV.out.symm, unhide HB6⟩
     | false =>
      have HV := hide (HVx.out.trans (if_neg (show ¬ K = 65535 by simpa using hk)))
      clear HVx
      go_enter Tryz.func91, Tryz.ntmps91
      go_wp2_with fail
      refine (unhide HP).mono ?_
      rintro e w1 ⟨rfl, rfl⟩
      go_wp2_with fail
      refine (unhide HC _).mono ?_
      rintro e w2 ⟨rfl, hb2⟩
      have HB2 := hide hb2
      clear hb2
      go_wp2_with fail
      refine (unhide HG _).mono ?_
      rintro e w3 ⟨rfl, rfl⟩
      go_wp2_with fail
      refine (unhide HO _).mono ?_
      rintro e w4 ⟨rfl, hb4⟩
      have HB4 := hide (Below.then (unhide HB2) hb4)
      clear hb4
      go_wp2_with fail
      refine (unhide HF _).mono ?_
      rintro e w5 ⟨rfl, hb5⟩
      have HB5 := hide (Below.then (unhide HB4) hb5)
      clear hb5
      go_wp2_with fail
      refine (unhide HK _).mono ?_
      rintro e w6 ⟨rfl, hb6⟩
      have HB6 := hide (Below.then (unhide HB5) hb6)
      clear hb6
      go_wp2_with fail
      go_ret
      exact ⟨ret_int HV.out.symm, unhide HB6⟩
    | true =>
     have HV := hide (unhide HV0 (by rw [h17, h0]; rfl))
     clear HV0 HVs
     go_enter Tryz.func91, Tryz.ntmps91
     go_wp2_with fail
     refine (unhide HP).mono ?_
     rintro e w1 ⟨rfl, rfl⟩
     go_wp2_with fail
     refine (unhide HC _).mono ?_
     rintro e w2 ⟨rfl, hb2⟩
     have HB2 := hide hb2
     clear hb2
     go_wp2_with fail
     refine (unhide HG _).mono ?_
     rintro e w3 ⟨rfl, rfl⟩
     go_wp2_with fail
     refine (unhide HO _).mono ?_
     rintro e w4 ⟨rfl, hb4⟩
     have HB4 := hide (Below.then (unhide HB2) hb4)
     clear hb4
     go_wp2_with fail
     go_ret
     exact ⟨ret_int HV.out.symm, unhide HB4⟩
end Go.Proofs.YtpjaajeojiaeiaaGreatDoor.Ps
