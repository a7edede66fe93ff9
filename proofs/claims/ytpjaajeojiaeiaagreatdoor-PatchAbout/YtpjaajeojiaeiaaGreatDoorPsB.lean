/- Contracts and mathematics of the layers below (PsMap, PsMath, PsProg, PsCheck, PsVer). -/
import Derived.Test.YtpjaajeojiaeiaaGreatDoorPsA
import Derived.Maps.Own
import Derived.Maps.OwnSet
/- What places, Place of package pseudo, and Place of the reference compute: where the check stands, by a map of two entries. -/
namespace Go.Proofs.YtpjaajeojiaeiaaGreatDoor.Ps
open Go.ChangeShapes Go.WideShapes Go.ChangeAt Go.RowKit Go.Maps

theorem lawI : Keyed Tryz.prog 3 := int_keyed Tryz.underlying3
theorem zeroI (w : World) : (zeroValue 3).run Tryz.prog w = .ok (.int .i64 0) w := by kernel_rfl

/-- The map's datum. -/
def plD : DataW Unit := ((DataW.map []).put (.int .i64 6) (.lit (.int .i64 16))).put (.int .i64 17) (.lit (.int .i64 6))
/-- Where the check stands, and whether it stands anywhere. -/
def plcB (p : Int) : Bool := (p == 6) || (p == 17)
def plc (p : Int) : Int := if p = 6 then 16 else if p = 17 then 6 else 0
theorem plD_eq : plD = .map [(.int .i64 6, .lit (.int .i64 16)), (.int .i64 17, .lit (.int .i64 6))] := rfl
theorem plD_has (p : Int) : Maps.has plD (.int .i64 p) = plcB p := by
 rw [plD_eq, Maps.has_eq]
 unfold plcB
 simp [Lit.sameKey, eq_comm, Bool.beq_eq_decide_eq]
theorem plD_at (p : Int) : plD.atKey (.int .i64 p) (.lit (.int .i64 0)) = .lit (.int .i64 (plc p)) := by
 rw [plD_eq]
 unfold plc DataW.atKey
 by_cases h6 : p = 6
 ·subst h6; rfl
 ·by_cases h17 : p = 17
  ·subst h17; rfl
  ·have e6 : ¬ (6 = p) := fun h => h6 h.symm
   have e17 : ¬ (17 = p) := fun h => h17 h.symm
   simp [Lit.sameKey, h6, h17, e6, e17]

set_option maxHeartbeats 1000000 in
theorem places_any (w : World) :
  Calls Tryz.prog 120 #[] w fun e w' => e = .returned (.map (some w.heap.size)) ∧ w'.ownsMap Tryz.prog 3 (plainElem Tryz.prog 3) w.heap.size 2 plD ∧ Below w.heap.size w w' := by
 have hmm := @run_makeMap Tryz.prog
 have h0 := World.ownsMap_made w Tryz.prog 3 (plainElem (H := Unit) Tryz.prog 3)
 have hb0 := (Below.refl w.heap.size w).alloc (Nat.le_refl _) (.map #[] 0)
 obtain ⟨w1, r1, o1, g1⟩ := h0.update lawI Tryz.underlying164 (by decide) (key := .int .i64 6) (val := .int .i64 16) (keyOf_int_mk Tryz.underlying3 (by decide)) (plainElem_int Tryz.underlying3 (by decide))
 obtain ⟨w2, r2, o2, g2⟩ := o1.update lawI Tryz.underlying164 (by decide) (key := .int .i64 17) (val := .int .i64 6) (keyOf_int_mk Tryz.underlying3 (by decide)) (plainElem_int Tryz.underlying3 (by decide))
 have HB := hide ((hb0.grown g1 hb0.size (fun j hj => by cases hj; exact Nat.le_refl _)).grown g2 (hb0.grown g1 hb0.size (fun j hj => by cases hj; exact Nat.le_refl _)).size (fun j hj => by cases hj; exact Nat.le_refl _))
 have HO := hide o2
 clear h0 hb0 o1 g1 o2 g2
 go_enter Tryz.func120, Tryz.ntmps120
 go_wp2
 go_ret
 exact ⟨rfl, unhide HO, unhide HB⟩

set_option maxHeartbeats 1000000 in
set_option maxRecDepth 100000 in
theorem place_any (p : Int) (w : World) (hp : -9223372036854775808 ≤ p ∧ p ≤ 9223372036854775807) :
  Calls Tryz.prog 83 #[.int .i64 p] w fun e w' => e = .returned (.tuple #[.int .i64 (plc p), .bool (plcB p)]) ∧ Below w.heap.size w w' := by
 have HK := hide (keyOf_int_mk Tryz.underlying3 (WalkArith.wf_i64 hp))
 go_enter Tryz.func83, Tryz.ntmps83
 go_wp2_with fail
 refine (places_any _).mono ?_
 rintro e w1 ⟨rfl, hown, hb⟩
 have HB := hide hb
 clear hb
 go_wp2_with (at_lookup; refine wpList_lookup_own_ok_int _ rfl _ _ 164 rfl 3 3 .i64 lawI Tryz.underlying164 Tryz.underlying3 (zeroI _) w.heap.size 2 plD rfl hown _ _ rfl (unhide HK) ?_; intro c hat hwc)
 go_ret2
 have e1 : c = plc p := by rw [plD_at] at hat; injection hat with h; injection h with h1 h2; exact h2.symm
 exact ⟨ret_kb e1 (plD_has p), unhide HB⟩

set_option maxHeartbeats 1000000 in
theorem rplace_any (p : Int) (w : World) :
  Calls Tryz.prog 32 #[.int .i64 p] w fun e w' => e = .returned (.tuple #[.int .i64 (plc p), .bool (plcB p)]) ∧ w' = w := by
 have HR : Hid (plcB p = ((p == 6) || (p == 17))) := rfl
 have HN : Hid (plc p = if p = 6 then 16 else if p = 17 then 6 else 0) := rfl
 generalize plcB p = R at *
 generalize plc p = n at *
 cases h6 : p == 6 with
 | true =>
  have e : p = 6 := by simpa using h6
  rw [h6] at HR
  rw [if_pos e] at HN
  clear e
  go_enter Tryz.func32, Tryz.ntmps32
  go_wp2
  go_ret2
  exact ⟨ret_kb HN.out.symm HR.out.symm, rfl⟩
 | false =>
  have e : ¬ p = 6 := by simpa using h6
  rw [h6] at HR
  rw [if_neg e] at HN
  clear e
  cases h17 : p == 17 with
  | true =>
   have e : p = 17 := by simpa using h17
   rw [h17] at HR
   rw [if_pos e] at HN
   clear e
   go_enter Tryz.func32, Tryz.ntmps32
   go_wp2
   go_ret2
   exact ⟨ret_kb HN.out.symm HR.out.symm, rfl⟩
  | false =>
   have e : ¬ p = 17 := by simpa using h17
   rw [h17] at HR
   rw [if_neg e] at HN
   clear e
   go_enter Tryz.func32, Tryz.ntmps32
   go_wp2
   go_ret2
   exact ⟨ret_kb HN.out.symm HR.out.symm, rfl⟩
end Go.Proofs.YtpjaajeojiaeiaaGreatDoor.Ps

/- Checks of segments as rows of bytes: what is covered, what is summed ahead of it, the check, what is filled, what is verified. Nothing of the program is in here. -/
namespace Go.Proofs.YtpjaajeojiaeiaaGreatDoor.Ps
open Go.ChangeShapes Go.WideShapes Go.ChangeAt Go.RowKit

/-- The covered part. -/
def cov (p : Int) (s : ByteArray) : ByteArray := if ((p == 17) && (measE s == 0)) = true then s.extract 0 (measN s).toNat else s
theorem cov_yes {p : Int} {s : ByteArray} (h1 : (p == 17) = true) (h2 : (measE s == 0) = true) : cov p s = s.extract 0 (measN s).toNat := by unfold cov; rw [h1, h2]; rfl
theorem cov_no1 {p : Int} {s : ByteArray} (h1 : (p == 17) = false) : cov p s = s := by unfold cov; rw [h1, Bool.false_and, if_neg (by decide)]
theorem cov_no2 {p : Int} {s : ByteArray} (h2 : (measE s == 0) = false) : cov p s = s := by unfold cov; rw [h2, Bool.and_false, if_neg (by decide)]
theorem cov_size (p : Int) (s : ByteArray) : (cov p s).size ≤ s.size := by
 unfold cov
 split
 ·rw [ByteArray.size_extract]; omega
 ·exact Nat.le_refl _
theorem measN_range {s : ByteArray} (h : (measE s == 0) = true) : 8 ≤ measN s ∧ measN s ≤ s.size ∧ measN s = got s 4 2 := by
 have e : measE s = 0 := by simpa using h
 obtain ⟨a, b, c⟩ := measE_ok e
 obtain ⟨d, _⟩ := meas_yes e
 omega

/-- What is summed ahead of a covered part of n bytes. -/
def frontS (p src dst : Int) (n : Nat) : ByteArray := laid 4 src ++ laid 4 dst ++ laid 1 0 ++ laid 1 p ++ laid 2 ((n : Int) % 65536)
theorem frontS_size (p src dst : Int) (n : Nat) : (frontS p src dst n).size ≤ 20 := by
 unfold frontS
 simp only [ByteArray.size_append]
 have := laid_size 4 src; have := laid_size 4 dst; have := laid_size 1 0; have := laid_size 1 p; have := laid_size 2 ((n : Int) % 65536)
 omega

/-- The covered part with 0 in the check's place; whether there is room; the check. -/
def chkB (p : Int) (s : ByteArray) : Bool := plcB p && setB (cov p s) (plc p) 2 0
def zeroed (p : Int) (s : ByteArray) : ByteArray := set (cov p s) (plc p) 2 0
def chk0 (p src dst : Int) (s : ByteArray) : Int := 65535 - Ck.sum (frontS p src dst (cov p s).size ++ zeroed p s).data.toList
def chkN (p src dst : Int) (s : ByteArray) : Int := if chkB p s = true then (if ((p == 17) && (chk0 p src dst s == 0)) = true then 65535 else chk0 p src dst s) else 0
theorem chk0_lo (p src dst : Int) (s : ByteArray) : 0 ≤ chk0 p src dst s := by unfold chk0; have := Ck.sum_hi (frontS p src dst (cov p s).size ++ zeroed p s).data.toList; omega
theorem chk0_hi (p src dst : Int) (s : ByteArray) : chk0 p src dst s ≤ 65535 := by unfold chk0; have := Ck.sum_lo (frontS p src dst (cov p s).size ++ zeroed p s).data.toList; omega
theorem chkN_lo (p src dst : Int) (s : ByteArray) : 0 ≤ chkN p src dst s := by
 have := chk0_lo p src dst s
 unfold chkN; split
 ·split
  ·decide
  ·exact this
 ·decide
theorem chkN_hi (p src dst : Int) (s : ByteArray) : chkN p src dst s ≤ 65535 := by
 have := chk0_hi p src dst s
 unfold chkN; split
 ·split
  ·decide
  ·exact this
 ·decide
theorem setB_split {s : ByteArray} {pos size n : Int} (h : setB s pos size n = true) : gotB s pos size = true ∧ laidB size n = true := by
 unfold setB at h; rwa [Bool.and_eq_true] at h
theorem set_size {s : ByteArray} {pos size n : Int} (h : setB s pos size n = true) : (set s pos size n).size = s.size := by
 obtain ⟨hg, hl⟩ := setB_split h
 obtain ⟨⟨h1, h2⟩, h3, h4⟩ := (gotB_iff s pos size).1 hg
 unfold set
 rw [if_pos h, Oct.mk_size]
 unfold Oct.put
 rw [List.length_append, List.length_append, Oct.be_length, List.length_take, List.length_drop, Oct.len_eq]
 omega
theorem zeroed_size {p : Int} {s : ByteArray} (h : chkB p s = true) : (zeroed p s).size = (cov p s).size := by
 unfold chkB at h
 rw [Bool.and_eq_true] at h
 exact set_size h.2
theorem set_le (s : ByteArray) (pos size n : Int) : (set s pos size n).size ≤ s.size := by
 by_cases h : setB s pos size n = true
 ·exact Nat.le_of_eq (set_size h)
 ·unfold set; rw [if_neg h]; exact Nat.zero_le _

/-- What Fill answers. -/
def fillB (p src dst : Int) (s : ByteArray) : Bool := chkB p s && setB s (plc p) 2 (chkN p src dst s)
def fillS (p src dst : Int) (s : ByteArray) : ByteArray := if chkB p s = true then set s (plc p) 2 (chkN p src dst s) else ⟨#[]⟩
theorem fillS_size (p src dst : Int) (s : ByteArray) : (fillS p src dst s).size ≤ s.size := by
 unfold fillS
 split
 ·exact set_le _ _ _ _
 ·exact Nat.zero_le _

/-- What Verify answers. -/
def verE (p src dst : Int) (s : ByteArray) : Int :=
 if plcB p = false then 9
 else if gotB (cov p s) (plc p) 2 = false then 2
 else if ((p == 17) && (got (cov p s) (plc p) 2 == 0)) = true then 0
 else if Ck.sum (frontS p src dst (cov p s).size ++ cov p s).data.toList = 65535 then 0 else 7
end Go.Proofs.YtpjaajeojiaeiaaGreatDoor.Ps

/- What covered, front, Check, Fill and Verify of package pseudo compute: one contract a function. -/
namespace Go.Proofs.YtpjaajeojiaeiaaGreatDoor.Ps
open Go.ChangeShapes Go.WideShapes Go.ChangeAt Go.RowKit

set_option maxHeartbeats 1000000 in
theorem covered_any (p : Int) (s : ByteArray) (w : World) (hs : s.size ≤ 281474976710656) :
  Calls Tryz.prog 122 #[.int .i64 p, .string s] w fun e w' => e = .returned (.string (cov p s)) ∧ w' = w := by
 have HS := hide (size_any s w hs)
 cases h1 : p == 17 with
 | false =>
  have HC := hide (cov_no1 (s := s) h1)
  have h1' : (p != 17) = true := by simp [bne, h1]
  generalize cov p s = C at *
  go_enter Tryz.func122, Tryz.ntmps122
  go_wp2_with fail
  go_ret
  exact ⟨ret_str HC.out.symm, rfl⟩
 | true =>
  have h1' : (p != 17) = false := by simp [bne, h1]
  cases h2 : measE s == 0 with
  | false =>
   have HC := hide (cov_no2 (p := p) h2)
   rw [h2] at HS
   generalize cov p s = C at *
   generalize measN s = n at *
   generalize measE s = x at *
   go_enter Tryz.func122, Tryz.ntmps122
   go_wp2_with fail
   refine (unhide HS).mono ?_
   rintro e w1 ⟨rfl, rfl⟩
   go_wp2_with fail
   go_ret
   exact ⟨ret_str HC.out.symm, rfl⟩
  | true =>
   have HC := hide (cov_yes h1 h2)
   obtain ⟨n0, n1, _⟩ := measN_range h2
   rw [h2] at HS
   obtain ⟨k, hk⟩ : ∃ k : Nat, measN s = k := ⟨(measN s).toNat, by omega⟩
   rw [hk] at HS HC n1
   rw [Int.toNat_natCast] at HC
   have n2 : k ≤ s.size := by omega
   clear hk n0
   generalize cov p s = C at *
   generalize measE s = x at *
   go_enter Tryz.func122, Tryz.ntmps122
   go_wp2_with fail
   refine (unhide HS).mono ?_
   rintro e w1 ⟨rfl, rfl⟩
   go_wp2_with fail
   go_ret
   exact ⟨ret_str HC.out.symm, rfl⟩

set_option maxHeartbeats 1000000 in
theorem front_any (p src dst : Int) (n : Nat) (w : World) (s0 : 0 ≤ src) (s1 : src ≤ 4294967295) (d0 : 0 ≤ dst) (d1 : dst ≤ 4294967295) (hn : n ≤ 281474976710656) :
  Calls Tryz.prog 123 #[.int .i64 p, .int .u32 src, .int .u32 dst, .int .i64 n] w fun e w' => e = .returned (.string (frontS p src dst n)) ∧ Below w.heap.size w w' := by
 have H1 := hide (put_any 4 src)
 have H2 := hide (put_any 4 dst)
 have H3 := hide (put_any 1 0)
 have H4 := hide (put_any 1 p)
 have H5 := hide (put_any 2 ((n : Int) % 65536))
 have HF : Hid (frontS p src dst n = laid 4 src ++ laid 4 dst ++ laid 1 0 ++ laid 1 p ++ laid 2 ((n : Int) % 65536)) := rfl
 have z1 := laid_size 4 src
 have z2 := laid_size 4 dst
 have z3 := laid_size 1 0
 have z4 := laid_size 1 p
 have z5 := laid_size 2 ((n : Int) % 65536)
 have k0 : (n : Int).tmod 65536 = (n : Int) % 65536 := Int.tmod_eq_emod_of_nonneg (by omega)
 have m0 : 0 ≤ (n : Int) % 65536 := by omega
 have m1 : (n : Int) % 65536 ≤ 65535 := by omega
 generalize frontS p src dst n = F at *
 generalize laid 4 src = A at *
 generalize laid 4 dst = B at *
 generalize laid 1 0 = C at *
 generalize laid 1 p = D at *
 generalize laid 2 ((n : Int) % 65536) = E at *
 generalize laidB 4 src = b1 at *
 generalize laidB 4 dst = b2 at *
 generalize laidB 1 0 = b3 at *
 generalize laidB 1 p = b4 at *
 generalize laidB 2 ((n : Int) % 65536) = b5 at *
 have a1 := add_run A B (by omega) (by omega)
 have y1 : (A ++ B).size ≤ 8 := by rw [ByteArray.size_append]; omega
 generalize A ++ B = M1 at *
 have a2 := add_run M1 C (by omega) (by omega)
 have y2 : (M1 ++ C).size ≤ 12 := by rw [ByteArray.size_append]; omega
 generalize M1 ++ C = M2 at *
 have a3 := add_run M2 D (by omega) (by omega)
 have y3 : (M2 ++ D).size ≤ 16 := by rw [ByteArray.size_append]; omega
 generalize M2 ++ D = M3 at *
 have a4 := add_run M3 E (by omega) (by omega)
 clear z1 z2 z3 z4 z5 y1 y2 y3
 go_enter Tryz.func123, Tryz.ntmps123
 go_wp2_with fail
 refine (unhide H1 _).mono ?_
 rintro e w1 ⟨rfl, hb1⟩
 have HB1 := hide hb1
 clear hb1
 go_wp2_with fail
 refine (unhide H2 _).mono ?_
 rintro e w2 ⟨rfl, hb2⟩
 have HB2 := hide (Below.then (unhide HB1) hb2)
 clear hb2
 go_wp2_with fail
 refine (unhide H3 _).mono ?_
 rintro e w3 ⟨rfl, hb3⟩
 have HB3 := hide (Below.then (unhide HB2) hb3)
 clear hb3
 go_wp2_with fail
 refine (unhide H4 _).mono ?_
 rintro e w4 ⟨rfl, hb4⟩
 have HB4 := hide (Below.then (unhide HB3) hb4)
 clear hb4
 go_wp2_with fail
 refine (unhide H5 _).mono ?_
 rintro e w5 ⟨rfl, hb5⟩
 have HB5 := hide (Below.then (unhide HB4) hb5)
 clear hb5
 go_wp2_with fail
 go_ret
 exact ⟨ret_str HF.out.symm, unhide HB5⟩
end Go.Proofs.YtpjaajeojiaeiaaGreatDoor.Ps

/- What Check, Fill and Verify of package pseudo compute: one contract a function. -/
namespace Go.Proofs.YtpjaajeojiaeiaaGreatDoor.Ps
open Go.ChangeShapes Go.WideShapes Go.ChangeAt Go.RowKit

def I64 (p : Int) : Prop := -9223372036854775808 ≤ p ∧ p ≤ 9223372036854775807
def U32 (x : Int) : Prop := 0 ≤ x ∧ x ≤ 4294967295
theorem chkN_no {p src dst : Int} {s : ByteArray} (h : chkB p s = false) : chkN p src dst s = 0 := by unfold chkN; rw [if_neg (by rw [h]; decide)]
theorem chkN_plain {p src dst : Int} {s : ByteArray} (h : chkB p s = true) (h2 : ((p == 17) && (chk0 p src dst s == 0)) = false) : chkN p src dst s = chk0 p src dst s := by unfold chkN; rw [if_pos h, if_neg (by rw [h2]; decide)]
theorem chkN_full {p src dst : Int} {s : ByteArray} (h : chkB p s = true) (h2 : ((p == 17) && (chk0 p src dst s == 0)) = true) : chkN p src dst s = 65535 := by unfold chkN; rw [if_pos h, if_pos h2]

set_option maxHeartbeats 2000000 in
theorem pcheck_any (p src dst : Int) (s : ByteArray) (w : World) (hp : I64 p) (hS : U32 src) (hD : U32 dst) (hs : s.size ≤ 140737488360000) :
  Calls Tryz.prog 85 #[.int .i64 p, .int .u32 src, .int .u32 dst, .string s] w fun e w' => e = .returned (.tuple #[.int .u16 (chkN p src dst s), .bool (chkB p s)]) ∧ Below w.heap.size w w' := by
 have HP := hide (place_any p w hp)
 have HC := hide (fun u => covered_any p s u (by omega))
 cases hb : plcB p with
 | false =>
  have hcb : chkB p s = false := by unfold chkB; rw [hb]; rfl
  have HN := hide (chkN_no (src := src) (dst := dst) hcb)
  have HB := hide hcb
  rw [hb] at HP
  generalize chkN p src dst s = N at *
  generalize chkB p s = cb at *
  generalize plc p = at0 at *
  clear hcb HC hp hS hD
  go_enter Tryz.func85, Tryz.ntmps85
  go_wp2_with fail
  refine (unhide HP).mono ?_
  rintro e w1 ⟨rfl, hb1⟩
  have HB1 := hide hb1
  clear hb1
  go_wp2_with fail
  go_ret2
  exact ⟨ret_kb HN.out.symm HB.out.symm, unhide HB1⟩
 | true =>
  rw [hb] at HP
  have HT := hide (fun u => set_any (cov p s) (plc p) 2 0 u (by have := cov_size p s; unfold maxLen; omega))
  cases hc : setB (cov p s) (plc p) 2 0 with
  | false =>
   have hcb : chkB p s = false := by unfold chkB; rw [hb, hc]; rfl
   have HN := hide (chkN_no (src := src) (dst := dst) hcb)
   have HB := hide hcb
   rw [hc] at HT
   generalize chkN p src dst s = N at *
   generalize chkB p s = cb at *
   generalize set (cov p s) (plc p) 2 0 = Z at *
   generalize plc p = at0 at *
   generalize cov p s = C at *
   clear hcb hp hS hD
   go_enter Tryz.func85, Tryz.ntmps85
   go_wp2_with fail
   refine (unhide HP).mono ?_
   rintro e w1 ⟨rfl, hb1⟩
   have HB1 := hide hb1
   clear hb1
   go_wp2_with fail
   refine (unhide HC _).mono ?_
   rintro e w2 ⟨rfl, rfl⟩
   go_wp2_with fail
   refine (unhide HT _).mono ?_
   rintro e w3 ⟨rfl, hb3⟩
   have HB3 := hide (Below.then (unhide HB1) hb3)
   clear hb3
   go_wp2_with fail
   go_ret2
   exact ⟨ret_kb HN.out.symm HB.out.symm, unhide HB3⟩
  | true =>
   have hcb : chkB p s = true := by unfold chkB; rw [hb, hc]; rfl
   have hz : (zeroed p s).size ≤ 140737488360000 := by rw [zeroed_size hcb]; have := cov_size p s; omega
   have e0 : chk0 p src dst s = 65535 - Ck.sum (frontS p src dst (zeroed p s).size ++ zeroed p s).data.toList := by unfold chk0; rw [zeroed_size hcb]
   have HF := hide (fun u => front_any p src dst (zeroed p s).size u hS.1 hS.2 hD.1 hD.2 (by omega))
   have hf := frontS_size p src dst (zeroed p s).size
   have c0 := chk0_lo p src dst s
   have c1 := chk0_hi p src dst s
   have HB := hide hcb
   have HN1 := hide (chkN_plain (src := src) (dst := dst) hcb)
   have HN2 := hide (chkN_full (src := src) (dst := dst) hcb)
   rw [hc] at HT
   change Hid (∀ u, Calls _ _ _ u fun e w' => e = .returned (.tuple #[.string (zeroed p s), .bool true]) ∧ _) at HT
   generalize chkN p src dst s = N at *
   generalize chkB p s = cb at *
   generalize chk0 p src dst s = K at *
   generalize zeroed p s = Z at *
   generalize plc p = at0 at *
   generalize cov p s = C at *
   generalize frontS p src dst Z.size = F at *
   have a1 := add_run F Z (by omega) (by omega)
   have HK := hide (fun u => check_any (F ++ Z) u (by rw [ByteArray.size_append]; omega))
   rw [← e0] at HK
   generalize hM : F ++ Z = M at *
   clear hcb hp hS hD hf e0 hM
   cases h17 : p == 17 with
   | false =>
    have HN := hide (unhide HN1 (by rw [h17]; rfl))
    clear HN1 HN2
    go_enter Tryz.func85, Tryz.ntmps85
    go_wp2_with fail
    refine (unhide HP).mono ?_
    rintro e w1 ⟨rfl, hb1⟩
    have HB1 := hide hb1
    clear hb1
    go_wp2_with fail
    refine (unhide HC _).mono ?_
    rintro e w2 ⟨rfl, rfl⟩
    go_wp2_with fail
    refine (unhide HT _).mono ?_
    rintro e w3 ⟨rfl, hb3⟩
    have HB3 := hide (Below.then (unhide HB1) hb3)
    clear hb3
    go_wp2_with fail
    refine (unhide HF _).mono ?_
    rintro e w4 ⟨rfl, hb4⟩
    have HB4 := hide (Below.then (unhide HB3) hb4)
    clear hb4
    go_wp2_with fail
    refine (unhide HK _).mono ?_
    rintro e w5 ⟨rfl, hb5⟩
    have HB5 := hide (Below.then (unhide HB4) hb5)
    clear hb5
    go_wp2_with fail
    go_ret2
    exact ⟨ret_kb HN.out.symm HB.out.symm, unhide HB5⟩
   | true =>
    cases hk : K == 0 with
    | false =>
     have HN := hide (unhide HN1 (by rw [h17, hk]; rfl))
     clear HN1 HN2
     go_enter Tryz.func85, Tryz.ntmps85
     go_wp2_with fail
     refine (unhide HP).mono ?_
     rintro e w1 ⟨rfl, hb1⟩
     have HB1 := hide hb1
     clear hb1
     go_wp2_with fail
     refine (unhide HC _).mono ?_
     rintro e w2 ⟨rfl, rfl⟩
     go_wp2_with fail
     refine (unhide HT _).mono ?_
     rintro e w3 ⟨rfl, hb3⟩
     have HB3 := hide (Below.then (unhide HB1) hb3)
     clear hb3
     go_wp2_with fail
     refine (unhide HF _).mono ?_
     rintro e w4 ⟨rfl, hb4⟩
     have HB4 := hide (Below.then (unhide HB3) hb4)
     clear hb4
     go_wp2_with fail
     refine (unhide HK _).mono ?_
     rintro e w5 ⟨rfl, hb5⟩
     have HB5 := hide (Below.then (unhide HB4) hb5)
     clear hb5
     go_wp2_with fail
     go_ret2
     exact ⟨ret_kb HN.out.symm HB.out.symm, unhide HB5⟩
    | true =>
     have HN := hide (unhide HN2 (by rw [h17, hk]; rfl))
     clear HN1 HN2
     go_enter Tryz.func85, Tryz.ntmps85
     go_wp2_with fail
     refine (unhide HP).mono ?_
     rintro e w1 ⟨rfl, hb1⟩
     have HB1 := hide hb1
     clear hb1
     go_wp2_with fail
     refine (unhide HC _).mono ?_
     rintro e w2 ⟨rfl, rfl⟩
     go_wp2_with fail
     refine (unhide HT _).mono ?_
     rintro e w3 ⟨rfl, hb3⟩
     have HB3 := hide (Below.then (unhide HB1) hb3)
     clear hb3
     go_wp2_with fail
     refine (unhide HF _).mono ?_
     rintro e w4 ⟨rfl, hb4⟩
     have HB4 := hide (Below.then (unhide HB3) hb4)
     clear hb4
     go_wp2_with fail
     refine (unhide HK _).mono ?_
     rintro e w5 ⟨rfl, hb5⟩
     have HB5 := hide (Below.then (unhide HB4) hb5)
     clear hb5
     go_wp2_with fail
     go_ret2
     exact ⟨ret_kb HN.out.symm HB.out.symm, unhide HB5⟩

theorem fillB_no {p src dst : Int} {s : ByteArray} (h : chkB p s = false) : fillB p src dst s = false ∧ fillS p src dst s = ⟨#[]⟩ := by
 unfold fillB fillS; rw [h]; exact ⟨rfl, if_neg (by decide)⟩
theorem fillB_yes {p src dst : Int} {s : ByteArray} (h : chkB p s = true) : fillB p src dst s = setB s (plc p) 2 (chkN p src dst s) ∧ fillS p src dst s = set s (plc p) 2 (chkN p src dst s) := by
 unfold fillB fillS; rw [h]; exact ⟨rfl, if_pos rfl⟩

set_option maxHeartbeats 2000000 in
theorem pfill_any (p src dst : Int) (s : ByteArray) (w : World) (hp : I64 p) (hS : U32 src) (hD : U32 dst) (hs : s.size ≤ 140737488360000) :
  Calls Tryz.prog 54 #[.int .i64 p, .int .u32 src, .int .u32 dst, .string s] w fun e w' => e = .returned (.tuple #[.string (fillS p src dst s), .bool (fillB p src dst s)]) ∧ Below w.heap.size w w' := by
 have HC := hide (pcheck_any p src dst s w hp hS hD hs)
 have HP := hide (fun u => place_any p u hp)
 have HT := hide (fun u => set_any s (plc p) 2 (chkN p src dst s) u (by unfold maxLen; omega))
 have c0 := chkN_lo p src dst s
 have c1 := chkN_hi p src dst s
 cases hb : chkB p s with
 | false =>
  have HF := hide (fillB_no (src := src) (dst := dst) hb)
  rw [hb] at HC
  generalize chkN p src dst s = N at *
  generalize fillS p src dst s = FT at *
  generalize fillB p src dst s = FB at *
  clear hp hS hD HT
  go_enter Tryz.func54, Tryz.ntmps54
  go_wp2_with fail
  refine (unhide HC).mono ?_
  rintro e w1 ⟨rfl, hb1⟩
  have HB1 := hide hb1
  clear hb1
  go_wp2_with fail
  go_ret2
  exact ⟨ret_sb HF.out.2.symm HF.out.1.symm, unhide HB1⟩
 | true =>
  have HF := hide (fillB_yes (src := src) (dst := dst) hb)
  rw [hb] at HC
  generalize chkN p src dst s = N at *
  generalize fillS p src dst s = FT at *
  generalize fillB p src dst s = FB at *
  generalize plc p = at0 at *
  generalize plcB p = atB at *
  generalize set s at0 2 N = Z at *
  generalize setB s at0 2 N = ZB at *
  clear hp hS hD
  go_enter Tryz.func54, Tryz.ntmps54
  go_wp2_with fail
  refine (unhide HC).mono ?_
  rintro e w1 ⟨rfl, hb1⟩
  have HB1 := hide hb1
  clear hb1
  go_wp2_with fail
  refine (unhide HP _).mono ?_
  rintro e w2 ⟨rfl, hb2⟩
  have HB2 := hide (Below.then (unhide HB1) hb2)
  clear hb2
  go_wp2_with fail
  refine (unhide HT _).mono ?_
  rintro e w3 ⟨rfl, hb3⟩
  have HB3 := hide (Below.then (unhide HB2) hb3)
  clear hb3
  go_wp2_with fail
  go_ret2
  exact ⟨ret_sb HF.out.2.symm HF.out.1.symm, unhide HB3⟩
end Go.Proofs.YtpjaajeojiaeiaaGreatDoor.Ps

/- What Verify of package pseudo computes. -/
namespace Go.Proofs.YtpjaajeojiaeiaaGreatDoor.Ps
open Go.ChangeShapes Go.WideShapes Go.ChangeAt Go.RowKit

theorem verE_9 {p src dst : Int} {s : ByteArray} (h : plcB p = false) : verE p src dst s = 9 := by unfold verE; rw [if_pos h]
theorem verE_2 {p src dst : Int} {s : ByteArray} (h : plcB p = true) (h2 : gotB (cov p s) (plc p) 2 = false) : verE p src dst s = 2 := by
 unfold verE; rw [if_neg (by rw [h]; decide), if_pos h2]
theorem verE_0 {p src dst : Int} {s : ByteArray} (h : plcB p = true) (h2 : gotB (cov p s) (plc p) 2 = true) (h3 : ((p == 17) && (got (cov p s) (plc p) 2 == 0)) = true) : verE p src dst s = 0 := by
 unfold verE; rw [if_neg (by rw [h]; decide), if_neg (by rw [h2]; decide), if_pos h3]
theorem verE_s {p src dst : Int} {s : ByteArray} (h : plcB p = true) (h2 : gotB (cov p s) (plc p) 2 = true) (h3 : ((p == 17) && (got (cov p s) (plc p) 2 == 0)) = false) :
  verE p src dst s = if Ck.sum (frontS p src dst (cov p s).size ++ cov p s).data.toList = 65535 then 0 else 7 := by
 unfold verE; rw [if_neg (by rw [h]; decide), if_neg (by rw [h2]; decide), if_neg (by rw [h3]; decide)]

set_option maxHeartbeats 2000000 in
theorem pverify_any (p src dst : Int) (s : ByteArray) (w : World) (hp : I64 p) (hS : U32 src) (hD : U32 dst) (hs : s.size ≤ 140737488360000) :
  Calls Tryz.prog 108 #[.int .i64 p, .int .u32 src, .int .u32 dst, .string s] w fun e w' => e = .returned (.int .i64 (verE p src dst s)) ∧ Below w.heap.size w w' := by
 have HP := hide (place_any p w hp)
 have HC := hide (fun u => covered_any p s u (by omega))
 cases hb : plcB p with
 | false =>
  have HV := hide (verE_9 (src := src) (dst := dst) (s := s) hb)
  rw [hb] at HP
  generalize verE p src dst s = V at *
  generalize plc p = at0 at *
  clear HC hp hS hD
  go_enter Tryz.func108, Tryz.ntmps108
  go_wp2_with fail
  refine (unhide HP).mono ?_
  rintro e w1 ⟨rfl, hb1⟩
  have HB1 := hide hb1
  clear hb1
  go_wp2_with fail
  go_ret
  exact ⟨ret_int HV.out.symm, unhide HB1⟩
 | true =>
  rw [hb] at HP
  have hcs := cov_size p s
  have HG := hide (fun u => get_any (cov p s) (plc p) 2 u (by unfold maxLen; omega))
  cases hg : gotB (cov p s) (plc p) 2 with
  | false =>
   have HV := hide (verE_2 (src := src) (dst := dst) hb hg)
   rw [hg] at HG
   generalize verE p src dst s = V at *
   generalize got (cov p s) (plc p) 2 = g at *
   generalize plc p = at0 at *
   generalize cov p s = C at *
   clear hp hS hD
   go_enter Tryz.func108, Tryz.ntmps108
   go_wp2_with fail
   refine (unhide HP).mono ?_
   rintro e w1 ⟨rfl, hb1⟩
   have HB1 := hide hb1
   clear hb1
   go_wp2_with fail
   refine (unhide HC _).mono ?_
   rintro e w2 ⟨rfl, rfl⟩
   go_wp2_with fail
   refine (unhide HG _).mono ?_
   rintro e w3 ⟨rfl, rfl⟩
   go_wp2_with fail
   go_ret
   exact ⟨ret_int HV.out.symm, unhide HB1⟩
  | true =>
   rw [hg] at HG
   have HV0 := hide (verE_0 (src := src) (dst := dst) hb hg)
   have HVs := hide (verE_s (src := src) (dst := dst) hb hg)
   have HF := hide (fun u => front_any p src dst (cov p s).size u hS.1 hS.2 hD.1 hD.2 (by omega))
   have hf := frontS_size p src dst (cov p s).size
   generalize verE p src dst s = V at *
   generalize got (cov p s) (plc p) 2 = g at *
   generalize plc p = at0 at *
   generalize cov p s = C at *
   generalize frontS p src dst C.size = F at *
   have a1 := add_run F C (by omega) (by omega)
   have HK := hide (fun u => sum_any (F ++ C) u (by rw [ByteArray.size_append]; omega))
   have k0 := Ck.sum_lo (F ++ C).data.toList
   have k1 := Ck.sum_hi (F ++ C).data.toList
   generalize Ck.sum (F ++ C).data.toList = K at *
   generalize F ++ C = M at *
   clear hp hS hD hf
   cases h17 : p == 17 with
   | false =>
    have HVx := hide (unhide HVs (by rw [h17]; rfl))
    clear HV0 HVs
    cases hk : K != 65535 with
    | false =>
     have HV := hide (HVx.out.trans (if_pos (show K = 65535 by simpa [bne] using hk)))
     clear HVx
     go_enter Tryz.func108, Tryz.ntmps108
     go_wp2_with fail
     refine (unhide HP).mono ?_
     rintro e w1 ⟨rfl, hb1⟩
     have HB1 := hide hb1
     clear hb1
     go_wp2_with fail
     refine (unhide HC _).mono ?_
     rintro e w2 ⟨rfl, rfl⟩
     go_wp2_with fail
     refine (unhide HG _).mono ?_
     rintro e w3 ⟨rfl, rfl⟩
     go_wp2_with fail
     refine (unhide HF _).mono ?_
     rintro e w4 ⟨rfl, hb4⟩
     have HB4 := hide (Below.then (unhide HB1) hb4)
     clear hb4
     go_wp2_with fail
     refine (unhide HK _).mono ?_
     rintro e w5 ⟨rfl, hb5⟩
     have HB5 := hide (Below.then (unhide HB4) hb5)
     clear hb5
     go_wp2_with fail
     go_ret
     exact ⟨ret_int HV.out.symm, unhide HB5⟩
    | true =>
     have HV := hide (HVx.out.trans (if_neg (show ¬ K = 65535 by simpa [bne] using hk)))
     clear HVx
     go_enter Tryz.func108, Tryz.ntmps108
     go_wp2_with fail
     refine (unhide HP).mono ?_
     rintro e w1 ⟨rfl, hb1⟩
     have HB1 := hide hb1
     clear hb1
     go_wp2_with fail
     refine (unhide HC _).mono ?_
     rintro e w2 ⟨rfl, rfl⟩
     go_wp2_with fail
     refine (unhide HG _).mono ?_
     rintro e w3 ⟨rfl, rfl⟩
     go_wp2_with fail
     refine (unhide HF _).mono ?_
     rintro e w4 ⟨rfl, hb4⟩
     have HB4 := hide (Below.then (unhide HB1) hb4)
     clear hb4
     go_wp2_with fail
     refine (unhide HK _).mono ?_
     rintro e w5 ⟨rfl, hb5⟩
     have HB5 := hide (Below.then (unhide HB4) hb5)
     clear hb5
     go_wp2_with fail
     go_ret
     exact ⟨ret_int HV.out.symm, unhide HB5⟩
   | true =>
    cases h0 : g == 0 with
    | false =>
     have HVx := hide (unhide HVs (by rw [h17, h0]; rfl))
     clear HV0 HVs
     cases hk : K != 65535 with
     | false =>
      have HV := hide (HVx.out.trans (if_pos (show K = 65535 by simpa [bne] using hk)))
      clear HVx
      go_enter Tryz.func108, Tryz.ntmps108
      go_wp2_with fail
      refine (unhide HP).mono ?_
      rintro e w1 ⟨rfl, hb1⟩
      have HB1 := hide hb1
      clear hb1
      go_wp2_with fail
      refine (unhide HC _).mono ?_
      rintro e w2 ⟨rfl, rfl⟩
      go_wp2_with fail
      refine (unhide HG _).mono ?_
      rintro e w3 ⟨rfl, rfl⟩
      go_wp2_with fail
      refine (unhide HF _).mono ?_
      rintro e w4 ⟨rfl, hb4⟩
      have HB4 := hide (Below.then (unhide HB1) hb4)
      clear hb4
      go_wp2_with fail
      refine (unhide HK _).mono ?_
      rintro e w5 ⟨rfl, hb5⟩
      have HB5 := hide (Below.then (unhide HB4) hb5)
      clear hb5
      go_wp2_with fail
      go_ret
      exact ⟨ret_int HV.out.symm, unhide HB5⟩
     | true =>
      have HV := hide (HVx.out.trans (if_neg (show ¬ K = 65535 by simpa [bne] using hk)))
      clear HVx
      go_enter Tryz.func108, Tryz.ntmps108
      go_wp2_with fail
      refine (unhide HP).mono ?_
      rintro e w1 ⟨rfl, hb1⟩
      have HB1 := hide hb1
      clear hb1
      go_wp2_with fail
      refine (unhide HC _).mono ?_
      rintro e w2 ⟨rfl, rfl⟩
      go_wp2_with fail
      refine (unhide HG _).mono ?_
      rintro e w3 ⟨rfl, rfl⟩
      go_wp2_with fail
      refine (unhide HF _).mono ?_
      rintro e w4 ⟨rfl, hb4⟩
      have HB4 := hide (Below.then (unhide HB1) hb4)
      clear hb4
      go_wp2_with fail
      refine (unhide HK _).mono ?_
      rintro e w5 ⟨rfl, hb5⟩
      have HB5 := hide (Below.then (unhide HB4) hb5)
      clear hb5
      go_wp2_with fail
      go_ret
      exact ⟨ret_int HV.out.symm, unhide HB5⟩
    | true =>
     have HV := hide (unhide HV0 (by rw [h17, h0]; rfl))
     clear HV0 HVs
     go_enter Tryz.func108, Tryz.ntmps108
     go_wp2_with fail
     refine (unhide HP).mono ?_
     rintro e w1 ⟨rfl, hb1⟩
     have HB1 := hide hb1
     clear hb1
     go_wp2_with fail
     refine (unhide HC _).mono ?_
     rintro e w2 ⟨rfl, rfl⟩
     go_wp2_with fail
     refine (unhide HG _).mono ?_
     rintro e w3 ⟨rfl, rfl⟩
     go_wp2_with fail
     go_ret
     exact ⟨ret_int HV.out.symm, unhide HB1⟩
end Go.Proofs.YtpjaajeojiaeiaaGreatDoor.Ps
