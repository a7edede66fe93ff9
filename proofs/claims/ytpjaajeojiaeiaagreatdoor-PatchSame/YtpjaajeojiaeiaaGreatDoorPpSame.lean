/- A packet that was turned, byte by byte (mathematics; nothing of the program). -/
import Derived.Test.YtpjaajeojiaeiaaGreatDoorPpLaw
namespace Go.Proofs.YtpjaajeojiaeiaaGreatDoor
open Go.RowKit

theorem turn_segsize {m : Mk} (w : m.Wf) {t : En} (h : t.Wf) {ttl : Int} (ht : 0 ≤ ttl ∧ ttl ≤ 255) : (segS (turn m t ttl) (pr m)).size = (segS m (pr m)).size := by
  rcases pr_or m with hp | hp <;> rw [hp]
  · rw [seg6_size (turn_wf w h ht), seg6_size w]; rfl
  · rw [seg17_size (turn_wf w h ht), seg17_size w]; rfl
theorem getD_mid (A : List UInt8) (x : UInt8) (R : List UInt8) (n : Nat) (h : A.length = n) : (A ++ ([x] ++ R)).getD n 0 = x := by
  rw [List.getD_eq_getElem?_getD, List.getElem?_append_right (by omega), h, Nat.sub_self]
  rfl
/-- A packet that was turned, byte by byte. -/
theorem same_made {m : Mk} (w : m.Wf) (hk : m.kind % 4 < 2) (hl : 2 ≤ m.ttl) {t : En} (h : t.Wf) :
    (frameS (turn m t (m.ttl - 1))).size = (frameS m).size ∧ (frameS (turn m t (m.ttl - 1))).data.toList.getD 8 0 = UInt8.ofNat (m.ttl - 1).toNat ∧ (frameS m).data.toList.getD 8 0 = UInt8.ofNat m.ttl.toNat ∧
      (∀ i : Nat, i ≠ 8 → ¬ (10 ≤ i ∧ i < 24) → i ≠ (if pr m = 6 then 36 else 26) → i ≠ (if pr m = 6 then 36 else 26) + 1 → (frameS (turn m t (m.ttl - 1))).data.toList.getD i 0 = (frameS m).data.toList.getD i 0) ∧
      (pr m = 17 → ((frameS (turn m t (m.ttl - 1))).extract 26 28).data.toList = uck (turn m t (m.ttl - 1))) := by
  have ht : 0 ≤ m.ttl - 1 ∧ m.ttl - 1 ≤ 255 := by have := w.ttl; omega
  have w' := turn_wf w h ht
  have hs := turn_segsize w h ht
  obtain ⟨M, hM, hF⟩ := frame_list w hk
  obtain ⟨M', hM', hS⟩ := frame_list w' hk
  obtain ⟨R1, K, R2, hR, hR1, hK, hu, hall⟩ := seg_parts w
  obtain ⟨K', hK', hR', hu'⟩ := hall t (m.ttl - 1) h ht
  rw [hR] at hF
  change (frameS (turn m t (m.ttl - 1))).data.toList = (Oct.be 4 (Ip.fw0 (Ip.hfix (iph (turn m t (m.ttl - 1))) (Ip.btotal (iph (turn m t (m.ttl - 1))) (segS (turn m t (m.ttl - 1)) (pr m))) 0)).toNat ++ Oct.be 4 (Ip.fw1 (Ip.hfix (iph (turn m t (m.ttl - 1))) (Ip.btotal (iph (turn m t (m.ttl - 1))) (segS (turn m t (m.ttl - 1)) (pr m))) 0)).toNat) ++ (Oct.be 1 (m.ttl - 1).toNat ++ (Oct.be 1 (pr m).toNat ++ (M' ++ (segS (turn m t (m.ttl - 1)) (pr m)).data.toList.drop 4))) at hS
  have ht2 : Ip.btotal (iph (turn m t (m.ttl - 1))) (segS (turn m t (m.ttl - 1)) (pr m)) = Ip.btotal (iph m) (segS m (pr m)) := by unfold Ip.btotal; rw [hs]; rfl
  have a0 : Ip.fw0 (Ip.hfix (iph (turn m t (m.ttl - 1))) (Ip.btotal (iph m) (segS m (pr m))) 0) = Ip.fw0 (Ip.hfix (iph m) (Ip.btotal (iph m) (segS m (pr m))) 0) := rfl
  have a1 : Ip.fw1 (Ip.hfix (iph (turn m t (m.ttl - 1))) (Ip.btotal (iph m) (segS m (pr m))) 0) = Ip.fw1 (Ip.hfix (iph m) (Ip.btotal (iph m) (segS m (pr m))) 0) := rfl
  rw [hR', ht2, a0, a1] at hS
  have hA : (Oct.be 4 (Ip.fw0 (Ip.hfix (iph m) (Ip.btotal (iph m) (segS m (pr m))) 0)).toNat ++ Oct.be 4 (Ip.fw1 (Ip.hfix (iph m) (Ip.btotal (iph m) (segS m (pr m))) 0)).toNat).length = 8 := by rw [List.length_append, Oct.be_length, Oct.be_length]
  generalize Oct.be 4 (Ip.fw0 (Ip.hfix (iph m) (Ip.btotal (iph m) (segS m (pr m))) 0)).toNat ++ Oct.be 4 (Ip.fw1 (Ip.hfix (iph m) (Ip.btotal (iph m) (segS m (pr m))) 0)).toNat = A at *
  have hp := pr_or m
  refine ⟨?_, ?_, ?_, ?_, ?_⟩
  · rw [← Oct.len_eq, ← Oct.len_eq, hS, hF]
    simp only [List.length_append, hM, hM', hK, hK', Oct.be_length]
  · rw [hS]; exact getD_mid A _ _ 8 hA
  · rw [hF]; exact getD_mid A _ _ 8 hA
  · intro i h8 hm h1 h2
    have e : (if pr m = 6 then 36 else 26) = 24 + R1.length := by rw [hR1]; rcases hp with hp | hp <;> rw [hp] <;> rfl
    rw [e] at h1 h2
    rw [hS, hF]
    exact same_list hA (Oct.be_length _ _) (Oct.be_length _ _) (Oct.be_length _ _) hM' hM hK' hK i h8 hm h1 h2
  · intro h17
    have e : R1.length = 2 := by rw [hR1, h17]; rfl
    rw [Oct.ext_list, hS, ← hu' h17]
    rw [show A ++ (Oct.be 1 (m.ttl - 1).toNat ++ (Oct.be 1 (pr m).toNat ++ (M' ++ (R1 ++ (K' ++ R2))))) = ((A ++ (Oct.be 1 (m.ttl - 1).toNat ++ (Oct.be 1 (pr m).toNat ++ (M' ++ R1)))) ++ K') ++ R2 by simp only [List.append_assoc]]
    rw [Ip.take_len (by simp only [List.length_append, hA, Oct.be_length, hM', e, hK'])]
    exact Ip.drop_len (by simp only [List.length_append, hA, Oct.be_length, hM', e])
theorem uck_zero (m : Mk) (h : m.zero = true) : uck m = [0, 0] := if_pos h
theorem uck_some (m : Mk) (h : m.zero = false) : uck m ≠ [0, 0] := by
  have hu : uck m = Oct.be 2 (Ps.dgC m.src m.dst m.sport m.dport (mb m)).toNat := if_neg (by rw [h]; decide)
  have h1 := Ps.num_ck 17 (Ps.base 17 m.src m.dst (Ps.dgA m.sport m.dport (mb m).size) (mb m).data.toList)
  have h2 := Ps.ckN_pos (Ps.base 17 m.src m.dst (Ps.dgA m.sport m.dport (mb m).size) (mb m).data.toList)
  intro e
  rw [hu] at e
  apply h2
  rw [← h1]
  change ((Oct.num (Oct.be 2 (Ps.dgC m.src m.dst m.sport m.dport (mb m)).toNat) : Nat) : Int) = 0
  rw [e]
  rfl
end Go.Proofs.YtpjaajeojiaeiaaGreatDoor
