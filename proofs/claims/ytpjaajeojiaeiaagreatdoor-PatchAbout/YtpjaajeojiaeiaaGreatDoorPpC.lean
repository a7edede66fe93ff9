/- Packets that are made, with other ends (mathematics; nothing of the program). -/
import Derived.Test.YtpjaajeojiaeiaaGreatDoorPpB
import Derived.Test.YtpjaajeojiaeiaaGreatDoorPkFrm
namespace Go.Proofs.YtpjaajeojiaeiaaGreatDoor
open Go.RowKit

/-- A word of a header, byte by byte. -/
theorem be4_parts (t p c : Nat) (hp : p < 256) (hc : c < 65536) : Oct.be 4 ((t * 256 + p) * 65536 + c) = Oct.be 1 t ++ (Oct.be 1 p ++ Oct.be 2 c) := by
 show [UInt8.ofNat (((t * 256 + p) * 65536 + c) / 256 / 256 / 256), UInt8.ofNat (((t * 256 + p) * 65536 + c) / 256 / 256), UInt8.ofNat (((t * 256 + p) * 65536 + c) / 256), UInt8.ofNat ((t * 256 + p) * 65536 + c)] = [UInt8.ofNat t, UInt8.ofNat p, UInt8.ofNat (c / 256), UInt8.ofNat c]
 rw [Oct.ofNat_congr (((t * 256 + p) * 65536 + c) / 256 / 256 / 256) t (by omega), Oct.ofNat_congr (((t * 256 + p) * 65536 + c) / 256 / 256) p (by omega), Oct.ofNat_congr (((t * 256 + p) * 65536 + c) / 256) (c / 256) (by omega), Oct.ofNat_congr ((t * 256 + p) * 65536 + c) c (by omega)]
/-- The parts of a header that is built. -/
theorem ftext_h20 {F : Nat → Int} (hF : Ip.Fits12 F) (O : List UInt8) : H20 ((Ip.ftext F).data.toList ++ O) (Oct.be 4 (Ip.fw0 F).toNat ++ Oct.be 4 (Ip.fw1 F).toNat) (Oct.be 1 (F 7).toNat) (Oct.be 1 (F 8).toNat) (Oct.be 2 (F 9).toNat) (Oct.be 4 (F 10).toNat) (Oct.be 4 (F 11).toNat) O := by
 refine ⟨?_, by simp [Oct.be_length], Oct.be_length _ _, Oct.be_length _ _, Oct.be_length _ _, Oct.be_length _ _, Oct.be_length _ _⟩
 have h7 := Ip.fit7 hF
 have h8 := Ip.fit8 hF
 have h9 := Ip.fit9 hF
 have e : (Ip.fw2 F).toNat = ((F 7).toNat * 256 + (F 8).toNat) * 65536 + (F 9).toNat := by unfold Ip.fw2; omega
 rw [Ip.ftext_list, e, be4_parts _ _ _ (by omega) (by omega)]
 simp only [List.append_assoc]
/-- A built header with another life and other addresses is a built header. -/
theorem outL_built {h : Ip.Hd} {body : ByteArray} (b : Ip.Built h body) {ttl src dst : Int} (hb : Ip.Built ⟨h.tos, h.id, h.flags, h.frag, ttl, h.proto, src, dst, h.opts⟩ body) :
  outL (Ip.bhead h body).data.toList ttl.toNat src.toNat dst.toNat = (Ip.bhead ⟨h.tos, h.id, h.flags, h.frag, ttl, h.proto, src, dst, h.opts⟩ body).data.toList := by
 have c0 := Ip.bcheck_lo h body
 have c1 := Ip.bcheck_hi h body
 have g := ftext_h20 (b.fits c0 c1) h.opts.data.toList
 have g' := g.out ttl.toNat src.toNat dst.toNat
 have e : (Ip.bhead h body).data.toList = (Ip.ftext (Ip.hfix h (Ip.btotal h body) (Ip.bcheck h body))).data.toList ++ h.opts.data.toList := by unfold Ip.bhead; rw [Ip.app_list]
 rw [e]
 have k0 := Ip.bcheck_lo ⟨h.tos, h.id, h.flags, h.frag, ttl, h.proto, src, dst, h.opts⟩ body
 have k1 := Ip.bcheck_hi ⟨h.tos, h.id, h.flags, h.frag, ttl, h.proto, src, dst, h.opts⟩ body
 have q := ftext_h20 (hb.fits k0 k1) h.opts.data.toList
 have q0 := ftext_h20 (hb.fits (Int.le_refl 0) (by decide)) h.opts.data.toList
 have e2 : (Ip.bhead ⟨h.tos, h.id, h.flags, h.frag, ttl, h.proto, src, dst, h.opts⟩ body).data.toList = (Ip.ftext (Ip.hfix ⟨h.tos, h.id, h.flags, h.frag, ttl, h.proto, src, dst, h.opts⟩ (Ip.btotal h body) (Ip.bcheck ⟨h.tos, h.id, h.flags, h.frag, ttl, h.proto, src, dst, h.opts⟩ body))).data.toList ++ h.opts.data.toList := by
  unfold Ip.bhead
  rw [Ip.app_list]
  rfl
 have e3 : Ip.bcheck ⟨h.tos, h.id, h.flags, h.frag, ttl, h.proto, src, dst, h.opts⟩ body = 65535 - Ck.sum ((Ip.ftext (Ip.hfix ⟨h.tos, h.id, h.flags, h.frag, ttl, h.proto, src, dst, h.opts⟩ (Ip.btotal ⟨h.tos, h.id, h.flags, h.frag, ttl, h.proto, src, dst, h.opts⟩ body) 0)).data.toList ++ h.opts.data.toList) := by
  unfold Ip.bcheck Ip.bsummed
  rw [Ip.app_list]
 rw [e2]
 refine g'.all.trans (Eq.trans ?_ q.all.symm)
 have e4 : Oct.be 2 (65535 - Ck.sum ((Oct.be 4 (Ip.fw0 (Ip.hfix h (Ip.btotal h body) (Ip.bcheck h body))).toNat ++ Oct.be 4 (Ip.fw1 (Ip.hfix h (Ip.btotal h body) (Ip.bcheck h body))).toNat) ++ (Oct.be 1 ttl.toNat ++ (Oct.be 1 (Ip.hfix h (Ip.btotal h body) (Ip.bcheck h body) 8).toNat ++ (Oct.be 2 0 ++ (Oct.be 4 src.toNat ++ (Oct.be 4 dst.toNat ++ h.opts.data.toList))))))).toNat = Oct.be 2 (Ip.bcheck ⟨h.tos, h.id, h.flags, h.frag, ttl, h.proto, src, dst, h.opts⟩ body).toNat := by
  rw [e3, q0.all]
  rfl
 rw [e4]
 rfl

/-- The packet with other ends and another life. -/
def turn (m : Mk) (t : En) (ttl : Int) : Mk := ⟨m.kind, t.src, t.dst, t.sport, t.dport, m.flags, ttl, m.body, m.zero, m.frm, m.dest⟩
structure En.Wf (t : En) : Prop where
 src : Ps.U32 t.src
 dst : Ps.U32 t.dst
 sport : 0 ≤ t.sport ∧ t.sport ≤ 65535
 dport : 0 ≤ t.dport ∧ t.dport ≤ 65535
theorem turn_wf {m : Mk} (w : m.Wf) {t : En} (h : t.Wf) {ttl : Int} (ht : 0 ≤ ttl ∧ ttl ≤ 255) : (turn m t ttl).Wf := ⟨w.kind, h.src, h.dst, h.sport, h.dport, w.flags, ht, w.body, w.frm, w.dest⟩
theorem drop_two (a b : Nat) (R : List UInt8) : (Oct.be 2 a ++ (Oct.be 2 b ++ R)).drop 4 = R := rfl
theorem seg_turn6 {m : Mk} (w : m.Wf) {t : En} (h : t.Wf) {ttl : Int} (ht : 0 ≤ ttl ∧ ttl ≤ 255) : segT (segS m 6) 6 t = segS (turn m t ttl) 6 := by
 have w' := turn_wf w h ht
 have hz := seg6_size w
 have hl := portS_list (s := segS m 6) (by omega) h.sport h.dport
 have hl0 : (segS m 6).data.toList = Oct.be 2 m.sport.toNat ++ (Oct.be 2 m.dport.toNat ++ (Oct.be 4 7 ++ (Oct.be 4 0 ++ (Oct.be 2 (Tc.hword (tch m)).toNat ++ (Oct.be 2 9 ++ (tck m ++ (Oct.be 2 0 ++ (mb m).data.toList))))))) := by
  rw [seg6_list w]; unfold Tc.fixA; simp only [List.append_assoc]; rfl
 rw [portL_eq (by rw [Oct.len_eq]; omega), hl0, drop_two] at hl
 have hl1 : (portS (segS m 6) t.sport t.dport).data.toList = Tc.fixA (tch (turn m t ttl)) ++ (tck m ++ (Oct.be 2 0 ++ (mb m).data.toList)) := by
  rw [hl]; unfold Tc.fixA; simp only [List.append_assoc]; rfl
 have g := Ps.seg_tcp hl1 (Tc.fixA_length _) (tck_len m)
 have f := (g.fill h.src h.dst).2
 have hb : bare 6 (portS (segS m 6) t.sport t.dport) = false := rfl
 have e : segT (segS m 6) 6 t = Ps.fillS 6 t.src t.dst (portS (segS m 6) t.sport t.dport) := by
  unfold segT
  rw [if_neg (by rw [hb]; decide)]
 rw [e]
 apply Oct.ba_ext
 rw [f, seg6_list w']
 simp only [List.append_nil]
 rfl
theorem seg_turn17 {m : Mk} (w : m.Wf) {t : En} (h : t.Wf) {ttl : Int} (ht : 0 ≤ ttl ∧ ttl ≤ 255) : segT (segS m 17) 17 t = segS (turn m t ttl) 17 := by
 have w' := turn_wf w h ht
 have hz := seg17_size w
 have hmb := (mb_size m).1
 have hl := portS_list (s := segS m 17) (by omega) h.sport h.dport
 have hl0 : (segS m 17).data.toList = Oct.be 2 m.sport.toNat ++ (Oct.be 2 m.dport.toNat ++ (Oct.be 2 (8 + ((mb m).size : Int)).toNat ++ (uck m ++ (mb m).data.toList))) := by
  rw [seg17_list w]; unfold Ps.dgA; simp only [List.append_assoc]
 rw [portL_eq (by rw [Oct.len_eq]; omega), hl0, drop_two] at hl
 have hl1 : (portS (segS m 17) t.sport t.dport).data.toList = Ps.dgA t.sport t.dport (mb m).size ++ (uck m ++ (mb m).data.toList) := by
  rw [hl]; unfold Ps.dgA; simp only [List.append_assoc]
 have hg : got (portS (segS m 17) t.sport t.dport) 6 2 = Oct.num (uck m) := Ps.got_part (p := 6) (k := 2) hl1 (Ps.dgA_len _ _ _) (uck_len m) (by decide) (by decide)
 cases hzr : m.zero with
 | true =>
  have hu : uck m = [0, 0] := if_pos hzr
  have hb : bare 17 (portS (segS m 17) t.sport t.dport) = true := by
   have h0 : ((Oct.num (uck m) : Nat) : Int) = 0 := by rw [hu]; decide
   unfold bare
   rw [hg, h0]
   decide
  have e : segT (segS m 17) 17 t = portS (segS m 17) t.sport t.dport := by unfold segT; rw [if_pos hb]
  have hu' : uck (turn m t ttl) = [0, 0] := if_pos hzr
  rw [e]
  apply Oct.ba_ext
  rw [hl1, seg17_list w', hu, hu']
  rfl
 | false =>
  have hu : uck m = Oct.be 2 (Ps.dgC m.src m.dst m.sport m.dport (mb m)).toNat := if_neg (by rw [hzr]; decide)
  have hn : Oct.num (uck m) ≠ 0 := by
   rw [hu]
   have h1 := Ps.num_ck 17 (Ps.base 17 m.src m.dst (Ps.dgA m.sport m.dport (mb m).size) (mb m).data.toList)
   have h2 := Ps.ckN_pos (Ps.base 17 m.src m.dst (Ps.dgA m.sport m.dport (mb m).size) (mb m).data.toList)
   intro h0
   apply h2
   rw [← h1]
   exact Int.natCast_eq_zero.2 h0
  have hb : bare 17 (portS (segS m 17) t.sport t.dport) = false := by unfold bare; rw [hg, beq_eq_false_iff_ne.2 (fun h0 => hn (Int.natCast_eq_zero.1 h0))]; rfl
  have e : segT (segS m 17) 17 t = Ps.fillS 17 t.src t.dst (portS (segS m 17) t.sport t.dport) := by
   unfold segT
   rw [if_neg (by rw [hb]; decide)]
  have g := Ps.seg_built (body := mb m) ((Ps.inP_iff _).2 h.sport) ((Ps.inP_iff _).2 h.dport) (by omega) (portS (segS m 17) t.sport t.dport) (uck m) (mb m).data.toList [] (uck_len m) (Oct.len_eq _) (by rw [List.append_nil]; exact hl1)
  have f := (g.fill h.src h.dst).2
  have hu' : uck (turn m t ttl) = Oct.be 2 (Ps.dgC t.src t.dst t.sport t.dport (mb m)).toNat := if_neg (by show ¬ m.zero = true; rw [hzr]; decide)
  rw [e]
  apply Oct.ba_ext
  rw [f, seg17_list w', hu']
  simp only [List.append_nil]
  rfl
theorem seg_turn {m : Mk} (w : m.Wf) {t : En} (h : t.Wf) {ttl : Int} (ht : 0 ≤ ttl ∧ ttl ≤ 255) : segT (segS m (pr m)) (pr m) t = segS (turn m t ttl) (pr m) := by
 rcases pr_or m with hp | hp <;> rw [hp]
 ·exact seg_turn6 w h ht
 ·exact seg_turn17 w h ht
theorem alw_told {s : ByteArray} {P : Pk} (h1 : clsE s = 0) (h2 : clsP s = P) (kind : Int) (t : En) : alwE s kind t = if P.kind ≠ kind then 1 else if prtB t.sport = false then 1 else if prtB t.dport = false then 1 else if P.ttl < 2 then 11 else 0 := by
 unfold alwE
 rw [if_neg (by simpa using h1), h2]
theorem alw_told0 {s : ByteArray} {P : Pk} (h1 : clsE s = 0) (h2 : clsP s = P) {kind : Int} {t : En} (hk : P.kind = kind) (h : t.Wf) (hl : 2 ≤ P.ttl) : alwE s kind t = 0 := by
 rw [alw_told h1 h2, if_neg (by simpa using hk), if_neg (by rw [(prtB_iff _).2 h.sport]; decide), if_neg (by rw [(prtB_iff _).2 h.dport]; decide), if_neg (by omega)]
theorem cut_left (a b : ByteArray) (n : Nat) (h : a.size = n) : (a ++ b).extract 0 n = a := by
 apply Oct.ba_ext
 rw [Oct.ext_list, List.drop_zero, Ip.app_list]
 exact Ip.take_len (by rw [Oct.len_eq]; exact h)
theorem cut_mid' (a b c : ByteArray) (n k : Nat) (h : a.size = n) (hk : n + b.size = k) : (a ++ b ++ c).extract n k = b := by
 apply Oct.ba_ext
 rw [Oct.ext_list, Ip.app_list, Ip.take_len (by rw [Oct.len_eq, ByteArray.size_append]; omega), Ip.app_list, Ip.drop_len (by rw [Oct.len_eq]; exact h)]
/-- A packet that is made, turned. -/
theorem plain_made {m : Mk} (w : m.Wf) (hk : m.kind % 4 < 2) {t : En} (h : t.Wf) (hl : 2 ≤ m.ttl) (more : ByteArray) :
  alwE (frameS m ++ more) 1 t = 0 ∧ plainS (frameS m ++ more) t = frameS (turn m t (m.ttl - 1)) := by
 obtain ⟨h1, h2⟩ := tells_plain w hk more
 have h0 := alw_told0 (kind := 1) h1 h2 rfl h hl
 refine ⟨h0, ?_⟩
 have ht : 0 ≤ m.ttl - 1 ∧ m.ttl - 1 ≤ 255 := by have := w.ttl; omega
 have e : frameS m = inS m := if_pos hk
 have e' : frameS (turn m t (m.ttl - 1)) = inS (turn m t (m.ttl - 1)) := if_pos hk
 have hz := inS_size w
 have b := in_built w
 have b' := in_built (turn_wf w h ht)
 rw [plainS_yes h0]
 unfold plnA plnB
 rw [h2, e', e]
 show outerS ((inS m ++ more).extract 0 (20 : Int).toNat) (m.ttl - 1) t.src t.dst ++ segT ((inS m ++ more).extract (20 : Int).toNat ((inS m).size : Int).toNat) (pr m) t = _
 have hh : (Ip.bhead (iph m) (segS m (pr m))).size = 20 := Ip.bhead_size _
 have c1 : (inS m ++ more).extract 0 (20 : Int).toNat = Ip.bhead (iph m) (segS m (pr m)) := by
  show (Ip.bhead (iph m) (segS m (pr m)) ++ segS m (pr m) ++ more).extract 0 20 = _
  rw [ByteArray.append_assoc]
  exact cut_left _ _ 20 hh
 have c2 : (inS m ++ more).extract (20 : Int).toNat ((inS m).size : Int).toNat = segS m (pr m) := cut_mid' _ _ _ 20 _ hh (by rw [Int.toNat_natCast]; omega)
 rw [c1, c2, seg_turn w h ht]
 have hsz : (segS (turn m t (m.ttl - 1)) (pr m)).size = (segS m (pr m)).size := by
  rcases pr_or m with hp | hp <;> rw [hp]
  ·rw [seg6_size (turn_wf w h ht), seg6_size w]; rfl
  ·rw [seg17_size (turn_wf w h ht), seg17_size w]; rfl
 have hb' : Ip.Built ⟨(iph m).tos, (iph m).id, (iph m).flags, (iph m).frag, m.ttl - 1, (iph m).proto, t.src, t.dst, (iph m).opts⟩ (segS m (pr m)) := ⟨b'.r, b'.w, by have := b'.l; unfold Ip.btotal at this ⊢; rw [← hsz]; exact this⟩
 have ho : outerS (Ip.bhead (iph m) (segS m (pr m))) (m.ttl - 1) t.src t.dst = Ip.bhead ⟨(iph m).tos, (iph m).id, (iph m).flags, (iph m).frag, m.ttl - 1, (iph m).proto, t.src, t.dst, (iph m).opts⟩ (segS m (pr m)) := by
  apply Oct.ba_ext
  rw [outerS_list (by omega) ht h.src h.dst, outL_built b hb']
 have hi : (⟨(iph m).tos, (iph m).id, (iph m).flags, (iph m).frag, m.ttl - 1, (iph m).proto, t.src, t.dst, (iph m).opts⟩ : Ip.Hd) = iph (turn m t (m.ttl - 1)) := rfl
 rw [ho, hi]
 have e1 : Ip.bhead (iph (turn m t (m.ttl - 1))) (segS m (pr m)) = Ip.bhead (iph (turn m t (m.ttl - 1))) (segS (turn m t (m.ttl - 1)) (pr m)) := by
  unfold Ip.bhead Ip.bcheck Ip.bsummed Ip.btotal
  rw [hsz]
 rw [e1]
 rfl
end Go.Proofs.YtpjaajeojiaeiaaGreatDoor

/- The law's examples answer true. -/
namespace Go.Proofs.YtpjaajeojiaeiaaGreatDoor
open Go.ChangeShapes Go.WideShapes Go.ChangeAt Go.RowKit

def exM : Mk := ⟨0, 1, 2, 3, 4, 0, 9, ⟨#[]⟩, false, 0, 0⟩
def exN : Mk := ⟨0, 5, 6, 7, 8, 0, 8, ⟨#[]⟩, false, 0, 0⟩
def exO : Mk := ⟨0, 1, 2, 3, 4, 0, 1, ⟨#[]⟩, false, 0, 0⟩
theorem exM_wf : exM.Wf := ⟨by decide, by decide, by decide, by decide, by decide, by decide, by decide, by decide, by decide, by decide⟩
theorem exN_wf : exN.Wf := ⟨by decide, by decide, by decide, by decide, by decide, by decide, by decide, by decide, by decide, by decide⟩
theorem exO_wf : exO.Wf := ⟨by decide, by decide, by decide, by decide, by decide, by decide, by decide, by decide, by decide, by decide⟩
theorem exM_turned : alwE (frameS exM) 1 ⟨5, 6, 7, 8⟩ = 0 ∧ plainS (frameS exM) ⟨5, 6, 7, 8⟩ = frameS exN := by
 have h := plain_made exM_wf (by decide) (t := ⟨5, 6, 7, 8⟩) ⟨⟨by decide, by decide⟩, ⟨by decide, by decide⟩, by decide, by decide⟩ (by decide) ⟨#[]⟩
 rw [Ps.app_nil] at h
 exact h
theorem cls_nil : clsE ⟨#[]⟩ = 2 := by
 have hm : Ip.measE ⟨#[]⟩ = 2 := if_pos (by decide)
 have h : Ip.parseE ⟨#[]⟩ = 2 := by unfold Ip.parseE; rw [hm]; rfl
 unfold clsE; rw [first1 (by rw [h]; decide), h]
theorem ex_nil : alwE ⟨#[]⟩ 1 ⟨0, 0, 0, 0⟩ = 2 ∧ plainS ⟨#[]⟩ ⟨0, 0, 0, 0⟩ = ⟨#[]⟩ := by
 have h : alwE ⟨#[]⟩ 1 ⟨0, 0, 0, 0⟩ = 2 := by rw [alw_err (by rw [cls_nil]; decide), cls_nil]
 exact ⟨h, plainS_no (by rw [h]; decide)⟩
theorem exO_old : alwE (frameS exO) 1 ⟨0, 0, 0, 0⟩ = 11 ∧ plainS (frameS exO) ⟨0, 0, 0, 0⟩ = ⟨#[]⟩ := by
 have h := tells_plain exO_wf (by decide) ⟨#[]⟩
 rw [Ps.app_nil] at h
 have h2 : alwE (frameS exO) 1 ⟨0, 0, 0, 0⟩ = 11 := by
  rw [alw_told h.1 h.2, if_neg (by decide), if_neg (by rw [(prtB_iff _).2 ⟨by decide, by decide⟩]; decide), if_neg (by rw [(prtB_iff _).2 ⟨by decide, by decide⟩]; decide), if_pos (by decide)]
 exact ⟨h2, plainS_no (by rw [h2]; decide)⟩

set_option maxRecDepth 100000 in
set_option maxHeartbeats 8000000 in
theorem examples_any (w : World) (hE : Ic.Env w) :
  Calls Tryz.prog 10 #[] w fun e w' => e = .returned (.bool true) ∧ Below w.heap.size w w' := by
 have FA := hide (fun u => frame_any exM u exM_wf)
 have FB := hide (fun u => frame_any exO u exO_wf)
 have FC := hide (fun u => frame_any exN u exN_wf)
 have PA := hide (fun u h => plain_any (frameS exM) ⟨5, 6, 7, 8⟩ u (by have := (frame_size exM_wf).2; omega) ⟨⟨by decide, by decide⟩, ⟨by decide, by decide⟩⟩ h)
 have PB := hide (fun u h => plain_any ⟨#[]⟩ ⟨0, 0, 0, 0⟩ u (by decide) ⟨⟨by decide, by decide⟩, ⟨by decide, by decide⟩⟩ h)
 have PC := hide (fun u h => plain_any (frameS exO) ⟨0, 0, 0, 0⟩ u (by have := (frame_size exO_wf).2; omega) ⟨⟨by decide, by decide⟩, ⟨by decide, by decide⟩⟩ h)
 rw [exM_turned.1, exM_turned.2] at PA
 rw [ex_nil.1, ex_nil.2] at PB
 rw [exO_old.1, exO_old.2] at PC
 generalize frameS exM = A at *
 generalize frameS exO = O at *
 generalize frameS exN = B at *
 simp only [exM, exO, exN] at FA FB FC
 have rm := (row_new w (Mk.cells ⟨0, 1, 2, 3, 4, 0, 9, ⟨#[]⟩, false, 0, 0⟩) 25).on' (alloc_on' _ (.cells (Mk.cells ⟨0, 5, 6, 7, 8, 0, 8, ⟨#[]⟩, false, 0, 0⟩).toArray 25))
 have rn := row_new (w.alloc (.cells (Mk.cells ⟨0, 1, 2, 3, 4, 0, 9, ⟨#[]⟩, false, 0, 0⟩).toArray 25)) (Mk.cells ⟨0, 5, 6, 7, 8, 0, 8, ⟨#[]⟩, false, 0, 0⟩) 25
 have bel := Below.then (alloc_on' w (.cells (Mk.cells ⟨0, 1, 2, 3, 4, 0, 9, ⟨#[]⟩, false, 0, 0⟩).toArray 25)) (alloc_on' _ (.cells (Mk.cells ⟨0, 5, 6, 7, 8, 0, 8, ⟨#[]⟩, false, 0, 0⟩).toArray 25))
 rw [show (w.alloc (.cells (Mk.cells ⟨0, 1, 2, 3, 4, 0, 9, ⟨#[]⟩, false, 0, 0⟩).toArray 25)).heap.size = w.heap.size + 1 by simp] at rn
 go_enter Tryz.func10, Tryz.ntmps10
 have rmc0 := rm.cell 0 _ rfl
 have rmc1 := rm.cell 1 _ rfl
 have rmc2 := rm.cell 2 _ rfl
 have rmc3 := rm.cell 3 _ rfl
 have rmc4 := rm.cell 4 _ rfl
 have rmc5 := rm.cell 5 _ rfl
 have rmc6 := rm.cell 6 _ rfl
 have rmc7 := rm.cell 7 _ rfl
 have rmc8 := rm.cell 8 _ rfl
 have rmc9 := rm.cell 9 _ rfl
 have rmc10 := rm.cell 10 _ rfl
 go_wp2_with fail
 refine (unhide FA _).mono ?_
 rintro e v1 ⟨rfl, hb⟩
 replace rm := rm.on' hb
 replace rn := rn.on' hb
 replace bel := Below.then bel hb
 clear rmc0 rmc1 rmc2 rmc3 rmc4 rmc5 rmc6 rmc7 rmc8 rmc9 rmc10
 clear hb
 go_wp2_with fail
 refine (unhide PA _ (hE.on bel)).mono ?_
 rintro e v2 ⟨rfl, hb⟩
 replace rm := rm.on' hb
 replace rn := rn.on' hb
 replace bel := Below.then bel hb
 clear hb
 go_wp2_with fail
 refine (unhide PB _ (hE.on bel)).mono ?_
 rintro e v3 ⟨rfl, hb⟩
 replace rm := rm.on' hb
 replace rn := rn.on' hb
 replace bel := Below.then bel hb
 clear hb
 have srmc := rm.cell 6 _ rfl
 have srmf := rm.free 6
 replace rn := rn.other (b := w.heap.size) (by omega) 6 (.int .u8 1)
 replace rm := rm.set 6 (.int .u8 1)
 replace bel := bel.setCell (p := ⟨w.heap.size, 6, none⟩) (show w.heap.size ≤ w.heap.size by omega) (.int .u8 1)
 obtain ⟨V4, eV4⟩ : ∃ V, v3.setCell ⟨w.heap.size, 6, none⟩ (.int .u8 1) = V := ⟨_, rfl⟩
 rw [eV4] at rm rn bel
 replace rm : Row V4 w.heap.size ((Mk.cells ⟨0, 1, 2, 3, 4, 0, 1, ⟨#[]⟩, false, 0, 0⟩)) := rm
 have rmc0 := rm.cell 0 _ rfl
 have rmc1 := rm.cell 1 _ rfl
 have rmc2 := rm.cell 2 _ rfl
 have rmc3 := rm.cell 3 _ rfl
 have rmc4 := rm.cell 4 _ rfl
 have rmc5 := rm.cell 5 _ rfl
 have rmc6 := rm.cell 6 _ rfl
 have rmc7 := rm.cell 7 _ rfl
 have rmc8 := rm.cell 8 _ rfl
 have rmc9 := rm.cell 9 _ rfl
 have rmc10 := rm.cell 10 _ rfl
 go_wp2_with fail
 refine (unhide FB _).mono ?_
 rintro e v5 ⟨rfl, hb⟩
 replace rm := rm.on' hb
 replace rn := rn.on' hb
 replace bel := Below.then bel hb
 clear srmc srmf eV4 rmc0 rmc1 rmc2 rmc3 rmc4 rmc5 rmc6 rmc7 rmc8 rmc9 rmc10
 clear hb
 go_wp2_with fail
 refine (unhide PC _ (hE.on bel)).mono ?_
 rintro e v6 ⟨rfl, hb⟩
 replace rm := rm.on' hb
 replace rn := rn.on' hb
 replace bel := Below.then bel hb
 clear hb
 have rnc0 := rn.cell 0 _ rfl
 have rnc1 := rn.cell 1 _ rfl
 have rnc2 := rn.cell 2 _ rfl
 have rnc3 := rn.cell 3 _ rfl
 have rnc4 := rn.cell 4 _ rfl
 have rnc5 := rn.cell 5 _ rfl
 have rnc6 := rn.cell 6 _ rfl
 have rnc7 := rn.cell 7 _ rfl
 have rnc8 := rn.cell 8 _ rfl
 have rnc9 := rn.cell 9 _ rfl
 have rnc10 := rn.cell 10 _ rfl
 go_wp2_with fail
 refine (unhide FC _).mono ?_
 rintro e v7 ⟨rfl, hb⟩
 replace rm := rm.on' hb
 replace rn := rn.on' hb
 replace bel := Below.then bel hb
 clear rnc0 rnc1 rnc2 rnc3 rnc4 rnc5 rnc6 rnc7 rnc8 rnc9 rnc10
 clear hb
 go_wp2_with fail
 go_ret
 exact ⟨rfl, bel⟩
end Go.Proofs.YtpjaajeojiaeiaaGreatDoor
