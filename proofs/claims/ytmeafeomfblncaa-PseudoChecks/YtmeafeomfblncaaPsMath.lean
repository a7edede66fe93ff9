/- Checks of segments as rows of bytes: what is covered, what is summed ahead of it, the check, what is filled, what is verified. Nothing of the program is in here. -/
import Derived.Test.YtmeafeomfblncaaUdRefs
import Derived.Test.YtmeafeomfblncaaPsMap
namespace Go.Proofs.Ytmeafeomfblncaa
open Go.ChangeShapes Go.WideShapes Go.ChangeAt Go.RowKit

/-- The covered part. -/
def cov (p : Int) (s : ByteArray) : ByteArray := if ((p == 17) && (measE s == 0)) = true then s.extract 0 (measN s).toNat else s
theorem cov_yes {p : Int} {s : ByteArray} (h1 : (p == 17) = true) (h2 : (measE s == 0) = true) : cov p s = s.extract 0 (measN s).toNat := by unfold cov; rw [h1, h2]; rfl
theorem cov_no1 {p : Int} {s : ByteArray} (h1 : (p == 17) = false) : cov p s = s := by unfold cov; rw [h1, Bool.false_and, if_neg (by decide)]
theorem cov_no2 {p : Int} {s : ByteArray} (h2 : (measE s == 0) = false) : cov p s = s := by unfold cov; rw [h2, Bool.and_false, if_neg (by decide)]
theorem cov_size (p : Int) (s : ByteArray) : (cov p s).size ≤ s.size := by
  unfold cov
  split
  · rw [ByteArray.size_extract]; omega
  · exact Nat.le_refl _
theorem measN_range {s : ByteArray} (h : (measE s == 0) = true) : 8 ≤ measN s ∧ measN s ≤ s.size ∧ measN s = got s 4 2 := by
  have e : measE s = 0 := by simpa using h
  obtain ⟨a, b, c⟩ := measE_ok e
  obtain ⟨d, _⟩ := meas_yes e
  omega

/-- What is summed ahead of a covered part of n bytes. -/
def frontS (p src dst : Int) (n : Nat) : ByteArray := laid 4 src ++ laid 4 dst ++ laid 1 0 ++ laid 1 p ++ laid 2 ((n : Int) % 65536)
theorem frontS_size (p src dst : Int) (n : Nat) : (frontS p src dst n).size ≤ 20 := by
  unfold frontS
  simp only [ByteArray.size_append]
  have := laid_size 4 src; have := laid_size 4 dst; have := laid_size 1 0; have := laid_size 1 p; have := laid_size 2 ((n : Int) % 65536)
  omega

/-- The covered part with 0 in the check's place; whether there is room; the check. -/
def chkB (p : Int) (s : ByteArray) : Bool := plcB p && setB (cov p s) (plc p) 2 0
def zeroed (p : Int) (s : ByteArray) : ByteArray := set (cov p s) (plc p) 2 0
def chk0 (p src dst : Int) (s : ByteArray) : Int := 65535 - Ck.sum (frontS p src dst (cov p s).size ++ zeroed p s).data.toList
def chkN (p src dst : Int) (s : ByteArray) : Int := if chkB p s = true then (if ((p == 17) && (chk0 p src dst s == 0)) = true then 65535 else chk0 p src dst s) else 0
theorem chk0_lo (p src dst : Int) (s : ByteArray) : 0 ≤ chk0 p src dst s := by unfold chk0; have := Ck.sum_hi (frontS p src dst (cov p s).size ++ zeroed p s).data.toList; omega
theorem chk0_hi (p src dst : Int) (s : ByteArray) : chk0 p src dst s ≤ 65535 := by unfold chk0; have := Ck.sum_lo (frontS p src dst (cov p s).size ++ zeroed p s).data.toList; omega
theorem chkN_lo (p src dst : Int) (s : ByteArray) : 0 ≤ chkN p src dst s := by
  have := chk0_lo p src dst s
  unfold chkN; split
  · split
    · decide
    · exact this
  · decide
theorem chkN_hi (p src dst : Int) (s : ByteArray) : chkN p src dst s ≤ 65535 := by
  have := chk0_hi p src dst s
  unfold chkN; split
  · split
    · decide
    · exact this
  · decide
theorem setB_split {s : ByteArray} {pos size n : Int} (h : setB s pos size n = true) : gotB s pos size = true ∧ laidB size n = true := by
  unfold setB at h; rwa [Bool.and_eq_true] at h
theorem set_size {s : ByteArray} {pos size n : Int} (h : setB s pos size n = true) : (set s pos size n).size = s.size := by
  obtain ⟨hg, hl⟩ := setB_split h
  obtain ⟨⟨h1, h2⟩, h3, h4⟩ := (gotB_iff s pos size).1 hg
  unfold set
  rw [if_pos h, Oct.mk_size]
  unfold Oct.put
  rw [List.length_append, List.length_append, Oct.be_length, List.length_take, List.length_drop, Oct.len_eq]
  omega
theorem zeroed_size {p : Int} {s : ByteArray} (h : chkB p s = true) : (zeroed p s).size = (cov p s).size := by
  unfold chkB at h
  rw [Bool.and_eq_true] at h
  exact set_size h.2
theorem set_le (s : ByteArray) (pos size n : Int) : (set s pos size n).size ≤ s.size := by
  by_cases h : setB s pos size n = true
  · exact Nat.le_of_eq (set_size h)
  · unfold set; rw [if_neg h]; exact Nat.zero_le _

/-- What Fill answers. -/
def fillB (p src dst : Int) (s : ByteArray) : Bool := chkB p s && setB s (plc p) 2 (chkN p src dst s)
def fillS (p src dst : Int) (s : ByteArray) : ByteArray := if chkB p s = true then set s (plc p) 2 (chkN p src dst s) else ⟨#[]⟩
theorem fillS_size (p src dst : Int) (s : ByteArray) : (fillS p src dst s).size ≤ s.size := by
  unfold fillS
  split
  · exact set_le _ _ _ _
  · exact Nat.zero_le _

/-- What Verify answers. -/
def verE (p src dst : Int) (s : ByteArray) : Int :=
  if plcB p = false then 9
  else if gotB (cov p s) (plc p) 2 = false then 2
  else if ((p == 17) && (got (cov p s) (plc p) 2 == 0)) = true then 0
  else if Ck.sum (frontS p src dst (cov p s).size ++ cov p s).data.toList = 65535 then 0 else 7
end Go.Proofs.Ytmeafeomfblncaa
