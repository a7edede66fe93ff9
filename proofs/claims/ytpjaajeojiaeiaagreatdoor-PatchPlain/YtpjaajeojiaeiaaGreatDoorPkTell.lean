/- What Classify tells of packets that are made (mathematics; nothing of the program). -/
import Derived.Test.YtpjaajeojiaeiaaGreatDoorPkMake
namespace Go.Proofs.YtpjaajeojiaeiaaGreatDoor
open Go.RowKit

/-- Of a packet that was built, with anything behind it. -/
theorem cls_built {h : Ip.Hd} {body : ByteArray} (b : Ip.Built h body) (ho : h.opts.size = 0) (more : ByteArray) :
    Ip.parseE (Ip.built h body ++ more) = 0 ∧ Ip.parseH (Ip.built h body ++ more) = h ∧ Ip.parseS (Ip.built h body ++ more) = body ∧ outP (Ip.built h body ++ more) h = ⟨0, 20, 20 + body.size, zeroTp, 0, h.ttl, h.src, h.dst, 0, 0⟩ := by
  obtain ⟨h1, h2, h3⟩ := Ip.parse_built b more
  have hm : Ip.measE (Ip.built h body ++ more) = 0 := Ip.meas_to (Ip.meas_built b more)
  have g := Ip.begins_of b more
  have e1 := Ip.f1_four g b.r.o4
  have e3 : Ip.fget (Ip.built h body ++ more) 3 = Ip.btotal h body := g.get 3 (by decide)
  have ht : Ip.btotal h body = 20 + h.opts.size + body.size := rfl
  refine ⟨h1, h2, h3, ?_⟩
  unfold outP Ip.sizeH Ip.sizeT
  rw [if_pos hm, if_pos hm, e1, e3, ht, ho]
  simp
theorem cls_part {h : Ip.Hd} {body : ByteArray} (b : Ip.Built h body) (ho : h.opts.size = 0) (hf : fragB h = true) (more : ByteArray) : clsE (Ip.built h body ++ more) = 8 := by
  obtain ⟨h1, h2, -, -⟩ := cls_built b ho more
  have h8 : frgE (Ip.built h body ++ more) = 8 := by unfold frgE; rw [h2, if_pos hf]
  unfold clsE
  rw [first3' h1 (by rw [h8]; decide), h8]
theorem cls_whole {h : Ip.Hd} {body : ByteArray} (b : Ip.Built h body) (ho : h.opts.size = 0) (hf : fragB h = false) (more : ByteArray) :
    clsE (Ip.built h body ++ more) = inE h.proto ⟨0, 20, 20 + body.size, zeroTp, 0, h.ttl, h.src, h.dst, 0, 0⟩ body ∧ clsP (Ip.built h body ++ more) = inP h.proto ⟨0, 20, 20 + body.size, zeroTp, 0, h.ttl, h.src, h.dst, 0, 0⟩ body := by
  obtain ⟨h1, h2, h3, h4⟩ := cls_built b ho more
  have h8 : frgE (Ip.built h body ++ more) = 0 := by unfold frgE; rw [h2, if_neg (by rw [hf]; decide)]
  constructor
  · unfold clsE
    rw [first3 h1 h8, h2, h3, h4]
  · unfold clsP
    rw [if_pos ⟨h1, h8⟩, h2, h3, h4]
theorem seg6_parse {m : Mk} (w : m.Wf) : Tc.parseE (segS m 6) = 0 ∧ Tc.parseH (segS m 6) = tch m := by
  refine Tc.parse_w (X := tck m) (B := (mb m).data.toList) (tck_len m) (tch_right w) (tch_wf w) ?_
  rw [seg6_list w, Tc.fixW_A]
  rfl
theorem seg6_ver {m : Mk} (w : m.Wf) : Ps.verE 6 m.src m.dst (segS m 6) = 0 := by
  have g : Ps.Seg 6 (segS m 6) (Tc.fixA (tch m)) (tck m) (Oct.be 2 0 ++ (mb m).data.toList) [] := Ps.seg_tcp (seg6_list w) (Tc.fixA_length _) (tck_len m)
  exact Ps.Seg.right g w.src w.dst
theorem seg17_parse {m : Mk} (w : m.Wf) : Ps.measE (segS m 17) = 0 ∧ Ps.parA (segS m 17) = m.sport ∧ Ps.parB (segS m 17) = m.dport :=
  Ps.parse_dg (uck_len m) ((Ps.inP_iff _).2 w.sport) ((Ps.inP_iff _).2 w.dport) (by have := (mb_size m).1; omega) (Oct.len_eq _) (seg17_list w)
theorem seg17_ver {m : Mk} (w : m.Wf) : Ps.verE 17 m.src m.dst (segS m 17) = 0 := by
  have g := dg_of w
  unfold segS
  rw [if_neg (by decide)]
  split
  · exact g.ver0
  · exact g.ver
/-- The ends of the packet. -/
def ends (m : Mk) : Tp := ⟨pr m, m.src, m.dst, m.sport, m.dport⟩
theorem tells_plain {m : Mk} (w : m.Wf) (hk : m.kind % 4 < 2) (more : ByteArray) :
    clsE (frameS m ++ more) = 0 ∧ clsP (frameS m ++ more) = ⟨1, 20, (frameS m).size, ends m, if pr m = 6 then m.flags % 64 else 0, m.ttl, m.src, m.dst, 0, 0⟩ := by
  have e : frameS m = inS m := if_pos hk
  have hz := (inS_size w).2.2
  obtain ⟨h1, h2⟩ := cls_whole (in_built w) rfl rfl more
  have hz' : (20 : Int) + ((segS m (pr m)).size : Int) = ((inS m).size : Int) := by omega
  rw [e]
  change clsE (inS m ++ more) = _ at h1
  change clsP (inS m ++ more) = _ at h2
  rw [h1, h2]
  show inE (pr m) ⟨0, 20, 20 + (segS m (pr m)).size, zeroTp, 0, m.ttl, m.src, m.dst, 0, 0⟩ _ = 0 ∧ inP (pr m) ⟨0, 20, 20 + (segS m (pr m)).size, zeroTp, 0, m.ttl, m.src, m.dst, 0, 0⟩ _ = _
  rw [hz']
  unfold ends
  rcases pr_or m with hp | hp
  · rw [hp]
    have hE : segE ⟨0, 20, (inS m).size, zeroTp, 0, m.ttl, m.src, m.dst, 0, 0⟩ (segS m 6) = 0 := by
      unfold segE
      rw [first2 (seg6_parse w).1]
      exact seg6_ver w
    refine ⟨by unfold inE; rw [if_pos rfl]; exact hE, ?_⟩
    unfold inP
    rw [if_pos rfl, segP_yes hE, (seg6_parse w).2, if_pos rfl]
    rfl
  · rw [hp]
    have hE : datE ⟨0, 20, (inS m).size, zeroTp, 0, m.ttl, m.src, m.dst, 0, 0⟩ (segS m 17) = 0 := by
      unfold datE
      rw [first2 (seg17_parse w).1]
      exact seg17_ver w
    refine ⟨by unfold inE; rw [if_neg (by decide), if_pos rfl]; exact hE, ?_⟩
    unfold inP
    rw [if_neg (by decide), if_pos rfl, datP_yes hE, (seg17_parse w).2.1, (seg17_parse w).2.2, if_neg (by decide)]
theorem got0_fget (s : ByteArray) (h : 20 ≤ s.size) : got s 0 1 = Ip.fget s 0 * 16 + Ip.fget s 1 := by
  rw [Ip.fget_fb s h 0 (by decide), Ip.fget_fb s h 1 (by decide)]
  have e : got s 0 1 = Ip.byt s 0 := Ip.got_at1 s 0 (by omega)
  rw [e]
  show Ip.byt s 0 = Ip.byt s 0 / 16 * 16 + Ip.byt s 0 % 16
  omega
/-- What a message about the packet quotes. -/
theorem quo_list {m : Mk} (w : m.Wf) : ∃ R, (ich m).body.data.toList = (Ip.ftext (Ip.hfix (iph m) (Ip.btotal (iph m) (segS m (pr m))) (Ip.bcheck (iph m) (segS m (pr m))))).data.toList ++ (Oct.be 2 m.sport.toNat ++ (Oct.be 2 m.dport.toNat ++ R)) := by
  have hz := (inS_size w).2.2
  have hn := quoN_rng w
  have hseg : ∃ R, (segS m (pr m)).data.toList = Oct.be 2 m.sport.toNat ++ (Oct.be 2 m.dport.toNat ++ R) ∧ 4 + R.length = (segS m (pr m)).size := by
    rcases pr_or m with hp | hp <;> rw [hp]
    · refine ⟨Oct.be 4 7 ++ (Oct.be 4 0 ++ (Oct.be 2 (Tc.hword (tch m)).toNat ++ (Oct.be 2 9 ++ (tck m ++ (Oct.be 2 0 ++ (mb m).data.toList))))), ?_, ?_⟩
      · rw [seg6_list w]; unfold Tc.fixA; simp only [List.append_assoc]; rfl
      · rw [seg6_size w]; simp only [List.length_append, Oct.be_length, tck_len, Oct.len_eq]; omega
    · refine ⟨Oct.be 2 (8 + ((mb m).size : Int)).toNat ++ (uck m ++ (mb m).data.toList), ?_, ?_⟩
      · rw [seg17_list w]; unfold Ps.dgA; simp only [List.append_assoc]
      · rw [seg17_size w]; simp only [List.length_append, Oct.be_length, uck_len, Oct.len_eq]; omega
  obtain ⟨R, hR, hRl⟩ := hseg
  refine ⟨R.take (quoN m - 24), ?_⟩
  show ((inS m).extract 0 (quoN m)).data.toList = _
  rw [Oct.ext_list, List.drop_zero]
  have hl : (inS m).data.toList = (Ip.ftext (Ip.hfix (iph m) (Ip.btotal (iph m) (segS m (pr m))) (Ip.bcheck (iph m) (segS m (pr m))))).data.toList ++ (Oct.be 2 m.sport.toNat ++ (Oct.be 2 m.dport.toNat ++ R)) := by
    unfold inS Ip.built Ip.bhead
    rw [Ip.app_list, Ip.app_list, hR, List.append_assoc]
    rfl
  rw [hl, List.take_append, List.take_append, List.take_append]
  have f20 : (Ip.ftext (Ip.hfix (iph m) (Ip.btotal (iph m) (segS m (pr m))) (Ip.bcheck (iph m) (segS m (pr m))))).data.toList.length = 20 := by rw [Oct.len_eq, Ip.ftext_size]
  rw [List.take_of_length_le (by omega), f20, Oct.be_length, Oct.be_length, List.take_of_length_le (by rw [Oct.be_length]; omega), List.take_of_length_le (by rw [Oct.be_length]; omega)]
  rw [show quoN m - 20 - 2 - 2 = quoN m - 24 by omega]
theorem quo_tells {m : Mk} (w : m.Wf) : qE (ich m).body = 0 ∧ qT (ich m).body = ends m ∧ qN (ich m).body = 20 := by
  obtain ⟨R, hR⟩ := quo_list w
  have hq := ich_body w
  have hn := quoN_rng w
  have b := in_built w
  have hg : ∀ k, k < 12 → Ip.fget (ich m).body k = Ip.hfix (iph m) (Ip.btotal (iph m) (segS m (pr m))) (Ip.bcheck (iph m) (segS m (pr m))) k := Ip.read_text _ _ _ hR (b.fits (Ip.bcheck_lo _ _) (Ip.bcheck_hi _ _))
  have G := Ip.gots (ich m).body (by omega)
  have f0 : Ip.fget (ich m).body 0 = 4 := hg 0 (by decide)
  have f1 : Ip.fget (ich m).body 1 = 5 := by rw [hg 1 (by decide)]; show (20 + ((⟨#[]⟩ : ByteArray).size : Int)) / 4 = 5; rfl
  have f6 : Ip.fget (ich m).body 6 = 0 := hg 6 (by decide)
  have f8 : Ip.fget (ich m).body 8 = pr m := hg 8 (by decide)
  have f10 : Ip.fget (ich m).body 10 = m.src := hg 10 (by decide)
  have f11 : Ip.fget (ich m).body 11 = m.dst := hg 11 (by decide)
  have g0 : got (ich m).body 0 1 = 69 := by rw [got0_fget _ (by omega), f0, f1]; rfl
  have g6 : got (ich m).body 6 2 % 8192 = 0 := by rw [G.g6, f6]
  have g9 : got (ich m).body 9 1 = pr m := by rw [G.g9, f8]
  have g12 : got (ich m).body 12 4 = m.src := by rw [G.g12, f10]
  have g16 : got (ich m).body 16 4 = m.dst := by rw [G.g16, f11]
  have f20 : (Ip.ftext (Ip.hfix (iph m) (Ip.btotal (iph m) (segS m (pr m))) (Ip.bcheck (iph m) (segS m (pr m))))).data.toList.length = 20 := by rw [Oct.len_eq, Ip.ftext_size]
  have g20 : got (ich m).body 20 2 = m.sport := by
    rw [← Ps.num_two ((Ps.inP_iff _).2 w.sport)]
    exact Ps.got_part (p := 20) (k := 2) hR f20 (Oct.be_length _ _) (by decide) (by decide)
  have g22 : got (ich m).body 22 2 = m.dport := by
    rw [← Ps.num_two ((Ps.inP_iff _).2 w.dport)]
    refine Ps.got_part (A := (Ip.ftext (Ip.hfix (iph m) (Ip.btotal (iph m) (segS m (pr m))) (Ip.bcheck (iph m) (segS m (pr m))))).data.toList ++ Oct.be 2 m.sport.toNat) (C := R) (p := 22) (k := 2) (hR.trans ?_) ?_ (Oct.be_length _ _) (by decide) (by decide)
    · simp only [List.append_assoc]
    · rw [List.length_append, f20, Oct.be_length]
  have hS : qSize (ich m).body = 20 := by unfold qSize; rw [g0]; rfl
  have hE : qE (ich m).body = 0 := by
    have b3 : qB3 (ich m).body = false := by unfold qB3; rw [g0]; rfl
    have b4 : qB4 (ich m).body = false := by unfold qB4; rw [hS]; simp; omega
    have b5 : qB5 (ich m).body = false := by unfold qB5; rw [g6]; rfl
    have b6 : qB6 (ich m).body = false := by unfold qB6; rw [g9]; rcases pr_or m with h | h <;> rw [h] <;> rfl
    have b7 : qB7 (ich m).body = false := by unfold qB7; rw [hS]; simp; omega
    unfold qE
    rw [if_neg (by simp; omega), b3, b4, b5, b6, b7]
    rfl
  obtain ⟨h1, h2⟩ := qE_yes hE
  refine ⟨hE, ?_, by rw [h2, hS]⟩
  rw [h1, hS, g9, g12, g16, g20]
  show Tp.mk _ _ _ _ (got (ich m).body 22 2) = _
  rw [g22]
  rfl
theorem tells_about {m : Mk} (w : m.Wf) (hk : ¬ m.kind % 4 < 2) (more : ByteArray) :
    clsE (frameS m ++ more) = 0 ∧ clsP (frameS m ++ more) = ⟨2, 20, (frameS m).size, ends m, 0, m.ttl, m.frm, m.dest, 28, 48⟩ := by
  have e : frameS m = outS m := if_neg hk
  have hz : (outS m).size = 20 + (Ic.built (ich m)).size := ip_size _ rfl _
  obtain ⟨h1, h2⟩ := cls_whole (out_built w) rfl rfl more
  have hz' : (20 : Int) + ((Ic.built (ich m)).size : Int) = ((outS m).size : Int) := by omega
  obtain ⟨q1, q2, q3⟩ := quo_tells w
  obtain ⟨p1, p2⟩ := Ic.parse_built (ich_good w)
  have hE : msgE (Ic.built (ich m)) = 0 := by
    unfold msgE
    rw [first3 p1 (by unfold typE; rw [p2]; rfl), p2]
    exact q1
  rw [e]
  change clsE (outS m ++ more) = _ at h1
  change clsP (outS m ++ more) = _ at h2
  rw [h1, h2]
  show inE 1 ⟨0, 20, 20 + (Ic.built (ich m)).size, zeroTp, 0, m.ttl, m.frm, m.dest, 0, 0⟩ _ = 0 ∧ inP 1 ⟨0, 20, 20 + (Ic.built (ich m)).size, zeroTp, 0, m.ttl, m.frm, m.dest, 0, 0⟩ _ = _
  rw [hz']
  refine ⟨by unfold inE; rw [if_neg (by decide), if_neg (by decide), if_pos rfl]; exact hE, ?_⟩
  unfold inP
  rw [if_neg (by decide), if_neg (by decide), if_pos rfl, msgP_yes hE, p2, q2, q3]
  rfl
end Go.Proofs.YtpjaajeojiaeiaaGreatDoor
