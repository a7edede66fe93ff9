/- What the laws ask of packets that are made (mathematics; nothing of the program). -/
import Derived.Test.YtpjaajeojiaeiaaGreatDoorPpAbt
namespace Go.Proofs.YtpjaajeojiaeiaaGreatDoor
open Go.RowKit

theorem plain_no_about {m : Mk} (w : m.Wf) (hk : m.kind % 4 < 2) (t : En) (src dst : Int) (more : ByteArray) : alwE (frameS m ++ more) 2 t = 1 ∧ aboutS (frameS m ++ more) src dst t = ⟨#[]⟩ := by
  obtain ⟨h1, h2⟩ := tells_plain w hk more
  have h : alwE (frameS m ++ more) 2 t = 1 := by rw [alw_told h1 h2, if_pos (by show (1 : Int) ≠ 2; decide)]
  exact ⟨h, aboutS_no (by rw [h]; decide)⟩
theorem about_no_plain {m : Mk} (w : m.Wf) (hk : ¬ m.kind % 4 < 2) (t : En) (more : ByteArray) : alwE (frameS m ++ more) 1 t = 1 ∧ plainS (frameS m ++ more) t = ⟨#[]⟩ := by
  obtain ⟨h1, h2⟩ := tells_about w hk more
  have h : alwE (frameS m ++ more) 1 t = 1 := by rw [alw_told h1 h2, if_pos (by show (2 : Int) ≠ 1; decide)]
  exact ⟨h, plainS_no (by rw [h]; decide)⟩
theorem about_frame {m : Mk} (w : m.Wf) (hk : ¬ m.kind % 4 < 2) {t : En} (h : t.Wf) (hl : 2 ≤ m.ttl) {src dst : Int} (hs : Ps.U32 src) (hd : Ps.U32 dst) (more : ByteArray) :
    alwE (frameS m ++ more) 2 t = 0 ∧ aboutS (frameS m ++ more) src dst t = abS (m.ttl - 1) src dst (m.flags % 6) (quoS (ich m).body 20 (m.ends.tup (pr m)) t) := by
  obtain ⟨A, T, C, R, q⟩ := quo_made w
  have hf := w.flags
  rw [frame_ab hk]
  exact about_made ⟨hl, w.ttl.2⟩ w.frm w.dest (by omega) q more hs hd h
/-- Errors alone. -/
theorem err_plain {m : Mk} (w : m.Wf) (hk : m.kind % 4 < 2) (t : En) (more : ByteArray) : alwE (frameS m ++ more) 1 t = if prtB t.sport = false then 1 else if prtB t.dport = false then 1 else if m.ttl < 2 then 11 else 0 := by
  obtain ⟨h1, h2⟩ := tells_plain w hk more
  rw [alw_told h1 h2, if_neg (by show ¬ (1 : Int) ≠ 1; decide)]
theorem err_about {m : Mk} (w : m.Wf) (hk : ¬ m.kind % 4 < 2) (t : En) (more : ByteArray) : alwE (frameS m ++ more) 2 t = if prtB t.sport = false then 1 else if prtB t.dport = false then 1 else if m.ttl < 2 then 11 else 0 := by
  obtain ⟨h1, h2⟩ := tells_about w hk more
  rw [alw_told h1 h2, if_neg (by show ¬ (2 : Int) ≠ 2; decide)]
theorem prt_in {n : Int} (h : 0 ≤ n ∧ n ≤ 65535) : prtB n = true := (prtB_iff n).2 h
theorem prt_out {n : Int} (h : n < 0 ∨ 65535 < n) : prtB n = false := Bool.eq_false_iff.2 fun e => by have := (prtB_iff n).1 e; omega
theorem err_of {s d ttl : Int} (h1 : prtB s = true) (h2 : prtB d = true) : (if prtB s = false then (1 : Int) else if prtB d = false then 1 else if ttl < 2 then 11 else 0) = if ttl < 2 then 11 else 0 := by rw [if_neg (by rw [h1]; decide), if_neg (by rw [h2]; decide)]
theorem err_of' {s d ttl : Int} (h1 : prtB s = true) (h2 : prtB d = false) : (if prtB s = false then (1 : Int) else if prtB d = false then 1 else if ttl < 2 then 11 else 0) = 1 := by rw [if_neg (by rw [h1]; decide), if_pos h2]

/-- A message's bytes. -/
theorem abS_list {ttl frm dest code : Int} (hc : 0 ≤ code ∧ code ≤ 255) (Q : ByteArray) : ∃ X, (abS ttl frm dest code Q).data.toList = X ++ Q.data.toList ∧ X.length = 28 := by
  refine ⟨(Ip.bhead ⟨0, 0, 0, 0, ttl, 1, frm, dest, ⟨#[]⟩⟩ (Ic.built ⟨3, code, 1400, Q⟩)).data.toList ++ (Ic.headL ⟨3, code, 1400, Q⟩ ++ (Oct.be 2 (Ic.chk ⟨3, code, 1400, Q⟩).toNat ++ Oct.be 4 (1400 : Int).toNat)), ?_, ?_⟩
  · unfold abS Ip.built
    rw [Ip.app_list, Ic.built_list (good_ab hc Q)]
    unfold Ic.tailL
    simp only [List.append_assoc]
  · simp only [List.length_append, Ic.headL_len, Oct.be_length, Oct.len_eq]
    rw [Ip.bhead_size]
    rfl
theorem abS_cut {ttl frm dest code : Int} (hc : 0 ≤ code ∧ code ≤ 255) (Q : ByteArray) (a b : Nat) : ((abS ttl frm dest code Q).extract (28 + a) (28 + b)).data.toList = (Q.data.toList.take b).drop a := by
  obtain ⟨X, h, hX⟩ := abS_list (ttl := ttl) (frm := frm) (dest := dest) hc Q
  rw [Oct.ext_list, h, List.take_append, List.take_of_length_le (by omega), List.drop_append, List.drop_of_length_le (by omega), hX, List.nil_append]
  rw [show 28 + b - 28 = b by omega, show 28 + a - 28 = a by omega]
theorem Quo.front {Q : ByteArray} {A T C R : List UInt8} {p : Int} {e : En} {n : Nat} (h : Quo Q A T p e n C R) : (Q.data.toList.take 10).drop 0 = A ++ (T ++ Oct.be 1 p.toNat) := by
  rw [h.all, List.drop_zero, show A ++ (T ++ (Oct.be 1 p.toNat ++ (C ++ (Oct.be 4 e.src.toNat ++ (Oct.be 4 e.dst.toNat ++ (Oct.be 2 e.sport.toNat ++ (Oct.be 2 e.dport.toNat ++ R))))))) = (A ++ (T ++ Oct.be 1 p.toNat)) ++ (C ++ (Oct.be 4 e.src.toNat ++ (Oct.be 4 e.dst.toNat ++ (Oct.be 2 e.sport.toNat ++ (Oct.be 2 e.dport.toNat ++ R))))) by simp only [List.append_assoc]]
  exact Ip.take_len (by simp only [List.length_append, h.a, h.t, Oct.be_length])
theorem Quo.ends' {Q : ByteArray} {A T C R : List UInt8} {p : Int} {e : En} {n : Nat} (h : Quo Q A T p e n C R) : (Q.data.toList.take 20).drop 12 = Oct.be 4 e.src.toNat ++ Oct.be 4 e.dst.toNat := by
  rw [h.all, show A ++ (T ++ (Oct.be 1 p.toNat ++ (C ++ (Oct.be 4 e.src.toNat ++ (Oct.be 4 e.dst.toNat ++ (Oct.be 2 e.sport.toNat ++ (Oct.be 2 e.dport.toNat ++ R))))))) = ((A ++ (T ++ (Oct.be 1 p.toNat ++ C))) ++ (Oct.be 4 e.src.toNat ++ Oct.be 4 e.dst.toNat)) ++ (Oct.be 2 e.sport.toNat ++ (Oct.be 2 e.dport.toNat ++ R)) by simp only [List.append_assoc]]
  rw [Ip.take_len (by simp only [List.length_append, h.a, h.t, h.c, Oct.be_length])]
  exact Ip.drop_len (by simp only [List.length_append, h.a, h.t, h.c, Oct.be_length])
/-- Turned there and back, the packet in the message is as it was. -/
theorem inside {m : Mk} (w : m.Wf) (hk : ¬ m.kind % 4 < 2) (hl : 3 ≤ m.ttl) {t : En} (h : t.Wf) {src dst : Int} (hs : Ps.U32 src) (hd : Ps.U32 dst) :
    ∃ S T : ByteArray, ∃ p : Int, alwE (frameS m) 2 t = 0 ∧ aboutS (frameS m) src dst t = S ∧ clsE S = 0 ∧ clsP S = ⟨2, 20, (frameS m).size, t.tup p, 0, m.ttl - 1, src, dst, 28, 48⟩ ∧
      alwE S 2 m.ends = 0 ∧ aboutS S m.frm m.dest m.ends = T ∧ clsE T = 0 ∧ clsP T = ⟨2, 20, (frameS m).size, m.ends.tup p, 0, m.ttl - 1 - 1, m.frm, m.dest, 28, 48⟩ ∧ S.size = (frameS m).size ∧ T.size = (frameS m).size ∧
      48 ≤ (frameS m).size ∧ T.extract 28 38 = (frameS m).extract 28 38 ∧ T.extract 40 48 = (frameS m).extract 40 48 := by
  obtain ⟨A, T, C, R, q⟩ := quo_made w
  have hf := w.flags
  have ht := w.ttl
  have hc : 0 ≤ m.flags % 6 ∧ m.flags % 6 ≤ 255 := by omega
  obtain ⟨C1, R1, q1, -⟩ := q.turn h
  obtain ⟨C2, R2, q2, -⟩ := q1.turn (ends_wf w)
  have a1 := about_made (more := ⟨#[]⟩) ⟨by omega, ht.2⟩ w.frm w.dest hc q hs hd h
  have a2 := about_made (ttl := m.ttl - 1) (more := ⟨#[]⟩) ⟨by omega, by omega⟩ hs hd hc q1 w.frm w.dest (ends_wf w)
  have c1 := cls_ab (ttl := m.ttl - 1) ⟨by omega, by omega⟩ hs hd hc q1 ⟨#[]⟩
  have c2 := cls_ab (ttl := m.ttl - 1 - 1) ⟨by omega, by omega⟩ w.frm w.dest hc q2 ⟨#[]⟩
  rw [Ps.app_nil] at a1 a2 c1 c2
  have z0 : (frameS m).size = 28 + quoN m := by rw [frame_ab hk, abS_size hc, q.size]
  have z0' : ((frameS m).size : Int) = 28 + (quoN m : Int) := by omega
  rw [← frame_ab hk] at a1
  rw [← z0'] at c1 c2
  refine ⟨_, _, pr m, a1.1, a1.2, c1.1, c1.2, a2.1, a2.2, c2.1, c2.2, ?_, ?_, ?_, ?_, ?_⟩
  · rw [abS_size hc, q1.size, z0]
  · rw [abS_size hc, q2.size, z0]
  · have := q.lo; omega
  · apply Oct.ba_ext
    rw [frame_ab hk]
    have e1 := abS_cut (ttl := m.ttl - 1 - 1) (frm := m.frm) (dest := m.dest) hc (quoS (quoS (ich m).body 20 (m.ends.tup (pr m)) t) 20 (t.tup (pr m)) m.ends) 0 10
    have e2 := abS_cut (ttl := m.ttl) (frm := m.frm) (dest := m.dest) hc (ich m).body 0 10
    rw [q2.front] at e1
    rw [q.front] at e2
    exact e1.trans e2.symm
  · apply Oct.ba_ext
    rw [frame_ab hk]
    have e1 := abS_cut (ttl := m.ttl - 1 - 1) (frm := m.frm) (dest := m.dest) hc (quoS (quoS (ich m).body 20 (m.ends.tup (pr m)) t) 20 (t.tup (pr m)) m.ends) 12 20
    have e2 := abS_cut (ttl := m.ttl) (frm := m.frm) (dest := m.dest) hc (ich m).body 12 20
    rw [q2.ends'] at e1
    rw [q.ends'] at e2
    exact e1.trans e2.symm
/-- Turned there and back, a packet is as it was. -/
theorem back {m : Mk} (w : m.Wf) (hk : m.kind % 4 < 2) (hl : 3 ≤ m.ttl) {t : En} (h : t.Wf) :
    alwE (frameS m) 1 t = 0 ∧ plainS (frameS m) t = frameS (turn m t (m.ttl - 1)) ∧ clsE (frameS (turn m t (m.ttl - 1))) = 0 ∧ clsP (frameS (turn m t (m.ttl - 1))) = ⟨1, 20, (frameS (turn m t (m.ttl - 1))).size, t.tup (pr m), if pr m = 6 then m.flags % 64 else 0, m.ttl - 1, t.src, t.dst, 0, 0⟩ ∧
      alwE (frameS (turn m t (m.ttl - 1))) 1 m.ends = 0 ∧ plainS (frameS (turn m t (m.ttl - 1))) m.ends = frameS (turn m m.ends (m.ttl - 2)) ∧ (frameS (turn m t (m.ttl - 1))).size = (frameS m).size := by
  have ht := w.ttl
  have w1 := turn_wf w h (ttl := m.ttl - 1) (by omega)
  have p1 := plain_made w hk h (by omega) ⟨#[]⟩
  have p2 := plain_made w1 hk (ends_wf w) (by show 2 ≤ m.ttl - 1; omega) ⟨#[]⟩
  have c1 := tells_plain w1 hk ⟨#[]⟩
  rw [Ps.app_nil] at p1 p2 c1
  have e : (turn m t (m.ttl - 1)).ttl - 1 = m.ttl - 2 := by show m.ttl - 1 - 1 = _; omega
  rw [e] at p2
  refine ⟨p1.1, p1.2, c1.1, c1.2, p2.1, p2.2, ?_⟩
  rw [show frameS (turn m t (m.ttl - 1)) = inS (turn m t (m.ttl - 1)) from if_pos hk, show frameS m = inS m from if_pos hk, (inS_size w1).2.2, (inS_size w).2.2]
  show 20 + (segS (turn m t (m.ttl - 1)) (pr m)).size = _
  rcases pr_or m with hp | hp <;> rw [hp]
  · rw [seg6_size w1, seg6_size w]; rfl
  · rw [seg17_size w1, seg17_size w]; rfl

/-- Bytes of two texts that differ in four places. -/
theorem same_list {A T T' P M M' R1 K K' R2 : List UInt8} (a : A.length = 8) (t : T.length = 1) (t' : T'.length = 1) (p : P.length = 1) (mm : M.length = 14) (m' : M'.length = 14) (k : K.length = 2) (k' : K'.length = 2) (i : Nat)
    (h8 : i ≠ 8) (hm : ¬ (10 ≤ i ∧ i < 24)) (hk : i ≠ 24 + R1.length) (hk' : i ≠ 24 + R1.length + 1) :
    (A ++ (T ++ (P ++ (M ++ (R1 ++ (K ++ R2)))))).getD i 0 = (A ++ (T' ++ (P ++ (M' ++ (R1 ++ (K' ++ R2)))))).getD i 0 := by
  simp only [List.getD_eq_getElem?_getD, List.getElem?_append, a, t, t', p, mm, m', k, k']
  congr 1
  by_cases h1 : i < 8
  · simp only [h1, if_true]
  · have n1 : ¬ i - 8 < 1 := by omega
    by_cases h2 : i - 8 - 1 < 1
    · simp only [h1, n1, h2, if_true, if_false]
    · have n3 : ¬ i - 8 - 1 - 1 < 14 := by omega
      by_cases h3 : i - 8 - 1 - 1 - 14 < R1.length
      · simp only [h1, n1, h2, n3, h3, if_true, if_false]
      · have n4 : ¬ i - 8 - 1 - 1 - 14 - R1.length < 2 := by omega
        simp only [h1, n1, h2, n3, h3, n4, if_false]
theorem frame_list {m : Mk} (w : m.Wf) (hk : m.kind % 4 < 2) : ∃ M, M.length = 14 ∧ (frameS m).data.toList = (Oct.be 4 (Ip.fw0 (Ip.hfix (iph m) (Ip.btotal (iph m) (segS m (pr m))) 0)).toNat ++ Oct.be 4 (Ip.fw1 (Ip.hfix (iph m) (Ip.btotal (iph m) (segS m (pr m))) 0)).toNat) ++ (Oct.be 1 m.ttl.toNat ++ (Oct.be 1 (pr m).toNat ++ (M ++ (segS m (pr m)).data.toList.drop 4))) := by
  have b := in_built w
  have v := ftext_h20 (b.fits (Ip.bcheck_lo (iph m) (segS m (pr m))) (Ip.bcheck_hi (iph m) (segS m (pr m)))) []
  rw [List.append_nil] at v
  have hz := seg_size w
  have hl := Oct.len_eq (segS m (pr m))
  refine ⟨Oct.be 2 (Ip.bcheck (iph m) (segS m (pr m))).toNat ++ (Oct.be 4 m.src.toNat ++ (Oct.be 4 m.dst.toNat ++ (segS m (pr m)).data.toList.take 4)), ?_, ?_⟩
  · simp only [List.length_append, Oct.be_length, List.length_take]; omega
  · rw [show frameS m = inS m from if_pos hk]
    unfold inS Ip.built Ip.bhead
    rw [Ip.app_list, Ip.app_list, v.all]
    show _ ++ ([] : List UInt8) ++ _ = _
    simp only [List.append_assoc, List.append_nil, List.take_append_drop]
    rfl
/-- What stands behind the ports of a segment: ahead of its check, the check, behind it. -/
theorem seg_parts {m : Mk} (w : m.Wf) : ∃ R1 K R2 : List UInt8, (segS m (pr m)).data.toList.drop 4 = R1 ++ (K ++ R2) ∧ R1.length = (if pr m = 6 then 12 else 2) ∧ K.length = 2 ∧ (pr m = 17 → K = uck m) ∧
    ∀ (t : En) (ttl : Int), t.Wf → 0 ≤ ttl ∧ ttl ≤ 255 → ∃ K' : List UInt8, K'.length = 2 ∧ (segS (turn m t ttl) (pr m)).data.toList.drop 4 = R1 ++ (K' ++ R2) ∧ (pr m = 17 → K' = uck (turn m t ttl)) := by
  rcases pr_or m with hp | hp <;> rw [hp]
  · have e6 : ∀ {n : Mk}, n.Wf → (segS n 6).data.toList.drop 4 = (Oct.be 4 7 ++ (Oct.be 4 0 ++ (Oct.be 2 (Tc.hword (tch n)).toNat ++ Oct.be 2 9))) ++ (tck n ++ (Oct.be 2 0 ++ (mb n).data.toList)) := fun {n} wn => by
      have hl0 : (segS n 6).data.toList = Oct.be 2 n.sport.toNat ++ (Oct.be 2 n.dport.toNat ++ ((Oct.be 4 7 ++ (Oct.be 4 0 ++ (Oct.be 2 (Tc.hword (tch n)).toNat ++ Oct.be 2 9))) ++ (tck n ++ (Oct.be 2 0 ++ (mb n).data.toList)))) := by
        rw [seg6_list wn]; unfold Tc.fixA; simp only [List.append_assoc]; rfl
      rw [hl0, drop_two]
    exact ⟨_, _, _, e6 w, by simp [Oct.be_length], tck_len m, fun h => absurd h (by decide), fun t ttl ht h => ⟨tck (turn m t ttl), tck_len _, e6 (turn_wf w ht h), fun h => absurd h (by decide)⟩⟩
  · have e17 : ∀ {n : Mk}, n.Wf → (segS n 17).data.toList.drop 4 = Oct.be 2 (8 + ((mb n).size : Int)).toNat ++ (uck n ++ (mb n).data.toList) := fun {n} wn => by
      have hl0 : (segS n 17).data.toList = Oct.be 2 n.sport.toNat ++ (Oct.be 2 n.dport.toNat ++ (Oct.be 2 (8 + ((mb n).size : Int)).toNat ++ (uck n ++ (mb n).data.toList))) := by
        rw [seg17_list wn]; unfold Ps.dgA; simp only [List.append_assoc]
      rw [hl0, drop_two]
    exact ⟨_, _, _, e17 w, by simp [Oct.be_length], uck_len m, fun _ => rfl, fun t ttl ht h => ⟨uck (turn m t ttl), uck_len _, e17 (turn_wf w ht h), fun _ => rfl⟩⟩
end Go.Proofs.YtpjaajeojiaeiaaGreatDoor
