/- What Classify of the reference of chapter 9 computes: the same as the program's. -/
import Derived.Test.YtpjaajeojiaeiaaGreatDoorPkRefA
import Derived.Test.YtpjaajeojiaeiaaGreatDoorPkCls
import Derived.Test.YtpjaajeojiaeiaaGreatDoorIpF
import Derived.Test.YtpjaajeojiaeiaaGreatDoorTcD
import Derived.Test.YtpjaajeojiaeiaaGreatDoorPsC
namespace Go.Proofs.YtpjaajeojiaeiaaGreatDoor
open Go.ChangeShapes Go.WideShapes Go.ChangeAt Go.RowKit

theorem parseS_1500 (s : ByteArray) : (Ip.parseS s).size ≤ 1500 := by
  unfold Ip.parseS
  split
  · rename_i h
    have hm : Ip.measE s = 0 := by
      unfold Ip.parseE at h
      by_cases hm : Ip.measE s = 0
      · exact hm
      · rw [if_neg hm] at h; exact absurd h hm
    have m := Ip.meas_of hm
    show (s.extract _ _).size ≤ _
    rw [ByteArray.size_extract]
    have := m.t2
    have := m.t0
    omega
  · exact Nat.zero_le _
theorem cls_6 {s : ByteArray} (h0 : Ip.parseE s = 0) (hf : frgE s = 0) (hp : (Ip.parseH s).proto = 6) : clsE s = segE (outP s (Ip.parseH s)) (Ip.parseS s) ∧ clsP s = segP (outP s (Ip.parseH s)) (Ip.parseS s) := by
  constructor
  · unfold clsE; rw [first3 h0 hf]; unfold inE; rw [if_pos hp]
  · unfold clsP; rw [if_pos ⟨h0, hf⟩]; unfold inP; rw [if_pos hp]
theorem cls_17 {s : ByteArray} (h0 : Ip.parseE s = 0) (hf : frgE s = 0) (hp : (Ip.parseH s).proto = 17) : clsE s = datE (outP s (Ip.parseH s)) (Ip.parseS s) ∧ clsP s = datP (outP s (Ip.parseH s)) (Ip.parseS s) := by
  constructor
  · unfold clsE; rw [first3 h0 hf]; unfold inE; rw [if_neg (by rw [hp]; decide), if_pos hp]
  · unfold clsP; rw [if_pos ⟨h0, hf⟩]; unfold inP; rw [if_neg (by rw [hp]; decide), if_pos hp]
theorem cls_1 {s : ByteArray} (h0 : Ip.parseE s = 0) (hf : frgE s = 0) (hp : (Ip.parseH s).proto = 1) : clsE s = msgE (Ip.parseS s) ∧ clsP s = msgP (outP s (Ip.parseH s)) (Ip.parseS s) := by
  constructor
  · unfold clsE; rw [first3 h0 hf]; unfold inE; rw [if_neg (by rw [hp]; decide), if_neg (by rw [hp]; decide), if_pos hp]
  · unfold clsP; rw [if_pos ⟨h0, hf⟩]; unfold inP; rw [if_neg (by rw [hp]; decide), if_neg (by rw [hp]; decide), if_pos hp]
theorem cls_o {s : ByteArray} (h0 : Ip.parseE s = 0) (hf : frgE s = 0) (h6 : ¬ (Ip.parseH s).proto = 6) (h17 : ¬ (Ip.parseH s).proto = 17) (h1 : ¬ (Ip.parseH s).proto = 1) : clsP s = zeroPk ∧ clsE s = 9 := by
  constructor
  · unfold clsP; rw [if_pos ⟨h0, hf⟩]; unfold inP; rw [if_neg h6, if_neg h17, if_neg h1]
  · unfold clsE; rw [first3 h0 hf]; unfold inE; rw [if_neg h6, if_neg h17, if_neg h1]
/-- A message does not hang on what else a packet has. -/
theorem msgP_of (p p' : Pk) (body : ByteArray) (h1 : p.pos = p'.pos) (h2 : p.total = p'.total) (h3 : p.flags = p'.flags) (h4 : p.ttl = p'.ttl) (h5 : p.src = p'.src) (h6 : p.dst = p'.dst) : msgP p body = msgP p' body := by
  unfold msgP; rw [h1, h2, h3, h4, h5, h6]

end Go.Proofs.YtpjaajeojiaeiaaGreatDoor
