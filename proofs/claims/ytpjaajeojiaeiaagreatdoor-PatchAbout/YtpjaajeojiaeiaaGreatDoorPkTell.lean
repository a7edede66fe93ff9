/- What Classify tells of packets that are made (mathematics; nothing of the program). -/
import Derived.Test.YtpjaajeojiaeiaaGreatDoorPkMake
namespace Go.Proofs.YtpjaajeojiaeiaaGreatDoor
open Go.RowKit

/-- Of a packet that was built, with anything behind it. -/
theorem cls_built {h : Ip.Hd} {body : ByteArray} (b : Ip.Built h body) (ho : h.opts.size = 0) (more : ByteArray) :
  Ip.parseE (Ip.built h body ++ more) = 0 ∧ Ip.parseH (Ip.built h body ++ more) = h ∧ Ip.parseS (Ip.built h body ++ more) = body ∧ outP (Ip.built h body ++ more) h = ⟨0, 20, 20 + body.size, zeroTp, 0, h.ttl, h.src, h.dst, 0, 0⟩ := by
 obtain ⟨h1, h2, h3⟩ := Ip.parse_built b more
 have hm : Ip.measE (Ip.built h body ++ more) = 0 := Ip.meas_to (Ip.meas_built b more)
 have g := Ip.begins_of b more
 have e1 := Ip.f1_four g b.r.o4
 have e3 : Ip.fget (Ip.built h body ++ more) 3 = Ip.btotal h body := g.get 3 (by decide)
 have ht : Ip.btotal h body = 20 + h.opts.size + body.size := rfl
 refine ⟨h1, h2, h3, ?_⟩
 unfold outP Ip.sizeH Ip.sizeT
 rw [if_pos hm, if_pos hm, e1, e3, ht, ho]
 simp
theorem cls_whole {h : Ip.Hd} {body : ByteArray} (b : Ip.Built h body) (ho : h.opts.size = 0) (hf : fragB h = false) (more : ByteArray) :
  clsE (Ip.built h body ++ more) = inE h.proto ⟨0, 20, 20 + body.size, zeroTp, 0, h.ttl, h.src, h.dst, 0, 0⟩ body ∧ clsP (Ip.built h body ++ more) = inP h.proto ⟨0, 20, 20 + body.size, zeroTp, 0, h.ttl, h.src, h.dst, 0, 0⟩ body := by
 obtain ⟨h1, h2, h3, h4⟩ := cls_built b ho more
 have h8 : frgE (Ip.built h body ++ more) = 0 := by unfold frgE; rw [h2, if_neg (by rw [hf]; decide)]
 constructor
 ·unfold clsE
  rw [first3 h1 h8, h2, h3, h4]
 ·unfold clsP
  rw [if_pos ⟨h1, h8⟩, h2, h3, h4]
theorem seg6_parse {m : Mk} (w : m.Wf) : Tc.parseE (segS m 6) = 0 ∧ Tc.parseH (segS m 6) = tch m := by
 refine Tc.parse_w (X := tck m) (B := (mb m).data.toList) (tck_len m) (tch_right w) (tch_wf w) ?_
 rw [seg6_list w, Tc.fixW_A]
 rfl
theorem seg6_ver {m : Mk} (w : m.Wf) : Ps.verE 6 m.src m.dst (segS m 6) = 0 := by
 have g : Ps.Seg 6 (segS m 6) (Tc.fixA (tch m)) (tck m) (Oct.be 2 0 ++ (mb m).data.toList) [] := Ps.seg_tcp (seg6_list w) (Tc.fixA_length _) (tck_len m)
 exact Ps.Seg.right g w.src w.dst
theorem seg17_parse {m : Mk} (w : m.Wf) : Ps.measE (segS m 17) = 0 ∧ Ps.parA (segS m 17) = m.sport ∧ Ps.parB (segS m 17) = m.dport :=
 Ps.parse_dg (uck_len m) ((Ps.inP_iff _).2 w.sport) ((Ps.inP_iff _).2 w.dport) (by have := (mb_size m).1; omega) (Oct.len_eq _) (seg17_list w)
theorem seg17_ver {m : Mk} (w : m.Wf) : Ps.verE 17 m.src m.dst (segS m 17) = 0 := by
 have g := dg_of w
 unfold segS
 rw [if_neg (by decide)]
 split
 ·exact g.ver0
 ·exact g.ver
/-- The ends of the packet. -/
def ends (m : Mk) : Tp := ⟨pr m, m.src, m.dst, m.sport, m.dport⟩
theorem tells_plain {m : Mk} (w : m.Wf) (hk : m.kind % 4 < 2) (more : ByteArray) :
  clsE (frameS m ++ more) = 0 ∧ clsP (frameS m ++ more) = ⟨1, 20, (frameS m).size, ends m, if pr m = 6 then m.flags % 64 else 0, m.ttl, m.src, m.dst, 0, 0⟩ := by
 have e : frameS m = inS m := if_pos hk
 have hz := (inS_size w).2.2
 obtain ⟨h1, h2⟩ := cls_whole (in_built w) rfl rfl more
 have hz' : (20 : Int) + ((segS m (pr m)).size : Int) = ((inS m).size : Int) := by omega
 rw [e]
 change clsE (inS m ++ more) = _ at h1
 change clsP (inS m ++ more) = _ at h2
 rw [h1, h2]
 show inE (pr m) ⟨0, 20, 20 + (segS m (pr m)).size, zeroTp, 0, m.ttl, m.src, m.dst, 0, 0⟩ _ = 0 ∧ inP (pr m) ⟨0, 20, 20 + (segS m (pr m)).size, zeroTp, 0, m.ttl, m.src, m.dst, 0, 0⟩ _ = _
 rw [hz']
 unfold ends
 rcases pr_or m with hp | hp
 ·rw [hp]
  have hE : segE ⟨0, 20, (inS m).size, zeroTp, 0, m.ttl, m.src, m.dst, 0, 0⟩ (segS m 6) = 0 := by
   unfold segE
   rw [first2 (seg6_parse w).1]
   exact seg6_ver w
  refine ⟨by unfold inE; rw [if_pos rfl]; exact hE, ?_⟩
  unfold inP
  rw [if_pos rfl, segP_yes hE, (seg6_parse w).2, if_pos rfl]
  rfl
 ·rw [hp]
  have hE : datE ⟨0, 20, (inS m).size, zeroTp, 0, m.ttl, m.src, m.dst, 0, 0⟩ (segS m 17) = 0 := by
   unfold datE
   rw [first2 (seg17_parse w).1]
   exact seg17_ver w
  refine ⟨by unfold inE; rw [if_neg (by decide), if_pos rfl]; exact hE, ?_⟩
  unfold inP
  rw [if_neg (by decide), if_pos rfl, datP_yes hE, (seg17_parse w).2.1, (seg17_parse w).2.2, if_neg (by decide)]
end Go.Proofs.YtpjaajeojiaeiaaGreatDoor
