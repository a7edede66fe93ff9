/- Packets that are made, byte by byte, and what they tell (mathematics; nothing of the program). -/
import Derived.Test.YtpjaajeojiaeiaaGreatDoorPkCls
import Derived.Test.YtpjaajeojiaeiaaGreatDoorIpF
import Derived.Test.YtpjaajeojiaeiaaGreatDoorTcD
import Derived.Test.YtpjaajeojiaeiaaGreatDoorPsD
import Derived.Test.YtpjaajeojiaeiaaGreatDoorIcD
namespace Go.Proofs.YtpjaajeojiaeiaaGreatDoor.Tc
open Go.ChangeShapes Go.WideShapes Go.ChangeAt Go.RowKit

/-- The first twenty bytes of a segment with the check X. -/
def fixA (h : Hd) : List UInt8 := Oct.be 2 h.src.toNat ++ (Oct.be 2 h.dst.toNat ++ (Oct.be 4 h.seq.toNat ++ (Oct.be 4 h.ack.toNat ++ (Oct.be 2 (hword h).toNat ++ Oct.be 2 h.win.toNat))))
def fixW (h : Hd) (X : List UInt8) : List UInt8 := Oct.be 2 h.src.toNat ++ (Oct.be 2 h.dst.toNat ++ (Oct.be 4 h.seq.toNat ++ (Oct.be 4 h.ack.toNat ++ (Oct.be 2 (hword h).toNat ++ (Oct.be 2 h.win.toNat ++ (X ++ Oct.be 2 h.urg.toNat))))))
theorem fixA_length (h : Hd) : (fixA h).length = 16 := by unfold fixA; simp [Oct.be_length]
theorem fixW_length (h : Hd) {X : List UInt8} (hX : X.length = 2) : (fixW h X).length = 20 := by unfold fixW; simp [Oct.be_length, hX]
theorem fixW_A (h : Hd) (X R : List UInt8) : fixW h X ++ R = fixA h ++ (X ++ (Oct.be 2 h.urg.toNat ++ R)) := by unfold fixW fixA; simp only [List.append_assoc]
theorem fixL_W (h : Hd) : fixL h = fixW h [0, 0] := rfl
theorem gots_w {s : ByteArray} {h : Hd} {X : List UInt8} (hX : X.length = 2) (r : RightP h) (hw : h.Wf) {C : List UInt8} (hl : s.data.toList = fixW h X ++ C) : Gots s h := by
 unfold fixW at hl
 simp only [List.append_assoc] at hl
 have n2 : ∀ n : Int, 0 ≤ n → n ≤ 65535 → (Oct.num (Oct.be 2 n.toNat) : Int) = n := fun n h0 h1 => num_be' 2 n h0 (by show _ < 65536; omega)
 have n4 : ∀ n : Int, 0 ≤ n → n ≤ 4294967295 → (Oct.num (Oct.be 4 n.toNat) : Int) = n := fun n h0 h1 => num_be' 4 n h0 (by show _ < 4294967296; omega)
 refine ⟨?_, ?_, ?_, ?_, ?_, ?_, ?_⟩
 ·rw [← n2 _ r.src.1 r.src.2]; exact got_part (A := []) (p := 0) (k := 2) hl rfl (Oct.be_length _ _) (by decide) (by decide)
 ·rw [← n2 _ r.dst.1 r.dst.2]; refine got_part (A := Oct.be 2 h.src.toNat) (p := 2) (k := 2) hl (Oct.be_length _ _) (Oct.be_length _ _) (by decide) (by decide)
 ·rw [← n4 _ hw.seq.1 hw.seq.2]; refine got_part (A := Oct.be 2 h.src.toNat ++ Oct.be 2 h.dst.toNat) (C := Oct.be 4 h.ack.toNat ++ (Oct.be 2 (hword h).toNat ++ (Oct.be 2 h.win.toNat ++ (X ++ (Oct.be 2 h.urg.toNat ++ C))))) (p := 4) (k := 4) (hl.trans ?_) (by simp [Oct.be_length]) (Oct.be_length _ _) (by decide) (by decide); simp only [List.append_assoc]
 ·rw [← n4 _ hw.ack.1 hw.ack.2]; refine got_part (A := Oct.be 2 h.src.toNat ++ (Oct.be 2 h.dst.toNat ++ Oct.be 4 h.seq.toNat)) (C := Oct.be 2 (hword h).toNat ++ (Oct.be 2 h.win.toNat ++ (X ++ (Oct.be 2 h.urg.toNat ++ C)))) (p := 8) (k := 4) (hl.trans ?_) (by simp [Oct.be_length]) (Oct.be_length _ _) (by decide) (by decide); simp only [List.append_assoc]
 ·rw [← n2 _ (hword_lo r) (hword_hi r)]; refine got_part (A := Oct.be 2 h.src.toNat ++ (Oct.be 2 h.dst.toNat ++ (Oct.be 4 h.seq.toNat ++ Oct.be 4 h.ack.toNat))) (C := Oct.be 2 h.win.toNat ++ (X ++ (Oct.be 2 h.urg.toNat ++ C))) (p := 12) (k := 2) (hl.trans ?_) (by simp [Oct.be_length]) (Oct.be_length _ _) (by decide) (by decide); simp only [List.append_assoc]
 ·rw [← n2 _ r.win.1 r.win.2]; refine got_part (A := Oct.be 2 h.src.toNat ++ (Oct.be 2 h.dst.toNat ++ (Oct.be 4 h.seq.toNat ++ (Oct.be 4 h.ack.toNat ++ Oct.be 2 (hword h).toNat)))) (C := X ++ (Oct.be 2 h.urg.toNat ++ C)) (p := 14) (k := 2) (hl.trans ?_) (by simp [Oct.be_length]) (Oct.be_length _ _) (by decide) (by decide); simp only [List.append_assoc]
 ·rw [← n2 _ r.urg.1 r.urg.2]; refine got_part (A := Oct.be 2 h.src.toNat ++ (Oct.be 2 h.dst.toNat ++ (Oct.be 4 h.seq.toNat ++ (Oct.be 4 h.ack.toNat ++ (Oct.be 2 (hword h).toNat ++ (Oct.be 2 h.win.toNat ++ X)))))) (C := C) (p := 18) (k := 2) (hl.trans ?_) (by simp [Oct.be_length, hX]) (Oct.be_length _ _) (by decide) (by decide); simp only [List.append_assoc]

theorem parse_w {s : ByteArray} {h : Hd} {X B : List UInt8} (hX : X.length = 2) (r : RightP h) (hw : h.Wf) (hl : s.data.toList = fixW h X ++ (h.opts.data.toList ++ B)) : parseE s = 0 ∧ parseH s = h := by
 have g := gots_w hX r hw hl
 have hz := hsz_of r g
 have hsz : s.size = 20 + h.opts.size + B.length := by rw [← Oct.len_eq, hl, List.length_append, List.length_append, fixW_length h hX, Oct.len_eq]; omega
 have hO : pO s = h.opts := by
  unfold pO
  exact ext_of hl (fixW_length h hX) (by rw [fixW_length h hX, Oct.len_eq, hz]; omega) rfl
 have hE : parseE s = 0 := by
  unfold parseE
  rw [if_neg (by omega), if_neg (by omega), if_neg (by omega), hO, if_pos r.ok]
 refine ⟨hE, ?_⟩
 unfold parseH
 rw [if_pos hE]
 unfold pH
 rw [g.src, g.dst, g.seq, g.ack, g.word, g.win, g.urg, hO, word_mod r]
end Go.Proofs.YtpjaajeojiaeiaaGreatDoor.Tc

namespace Go.Proofs.YtpjaajeojiaeiaaGreatDoor.Ps
/-- A datagram with any check. -/
theorem parse_dg {s : ByteArray} {a b : Int} {k : Nat} {X D : List UInt8} (hX : X.length = 2) (ha : inP a = true) (hb : inP b = true) (hk : k ≤ 1492) (hD : D.length = k) (hl : s.data.toList = dgA a b k ++ (X ++ D)) :
  measE s = 0 ∧ parA s = a ∧ parB s = b := by
 have hn : inP (8 + (k : Int)) = true := (inP_iff _).2 (by omega)
 have hl' : s.data.toList = Oct.be 2 a.toNat ++ (Oct.be 2 b.toNat ++ (Oct.be 2 (8 + (k : Int)).toNat ++ (X ++ D))) := by rw [hl]; unfold dgA; simp only [List.append_assoc]
 have g0 : got s 0 2 = a := by rw [← num_two ha]; exact got_part (A := []) (p := 0) (k := 2) hl' rfl (Oct.be_length _ _) (by decide) (by decide)
 have g2 : got s 2 2 = b := by rw [← num_two hb]; exact got_part (A := Oct.be 2 a.toNat) (p := 2) (k := 2) hl' (Oct.be_length _ _) (Oct.be_length _ _) (by decide) (by decide)
 have g4 : got s 4 2 = 8 + (k : Int) := by
  rw [← num_two hn]
  refine got_part (A := Oct.be 2 a.toNat ++ Oct.be 2 b.toNat) (B := Oct.be 2 (8 + (k : Int)).toNat) (C := X ++ D) (p := 4) (k := 2) ?_ (by simp [Oct.be_length]) (Oct.be_length _ _) (by decide) (by decide)
  rw [hl']; simp only [List.append_assoc]
 have hz : s.size = 8 + k := by rw [← Oct.len_eq, hl']; simp [Oct.be_length, hX, hD]; omega
 have hm : measE s = 0 := by
  unfold measE
  rw [if_neg (by omega), g4, if_neg (by omega), if_neg (by omega)]
 refine ⟨hm, ?_, ?_⟩
 ·unfold parA; rw [if_pos hm, g0]
 ·unfold parB; rw [if_pos hm, g2]
end Go.Proofs.YtpjaajeojiaeiaaGreatDoor.Ps

namespace Go.Proofs.YtpjaajeojiaeiaaGreatDoor
open Go.RowKit

/-- A packet by what it has. -/
structure Mk where
 kind : Int
 src : Int
 dst : Int
 sport : Int
 dport : Int
 flags : Int
 ttl : Int
 body : ByteArray
 zero : Bool
 frm : Int
 dest : Int
structure Mk.Wf (m : Mk) : Prop where
 kind : 0 ≤ m.kind ∧ m.kind ≤ 255
 src : 0 ≤ m.src ∧ m.src ≤ 4294967295
 dst : 0 ≤ m.dst ∧ m.dst ≤ 4294967295
 sport : 0 ≤ m.sport ∧ m.sport ≤ 65535
 dport : 0 ≤ m.dport ∧ m.dport ≤ 65535
 flags : 0 ≤ m.flags ∧ m.flags ≤ 255
 ttl : 0 ≤ m.ttl ∧ m.ttl ≤ 255
 body : m.body.size ≤ 140737488355328
 frm : 0 ≤ m.frm ∧ m.frm ≤ 4294967295
 dest : 0 ≤ m.dest ∧ m.dest ≤ 4294967295
abbrev Mk.val (m : Mk) : Value := .agg #[.int .u8 m.kind, .int .u32 m.src, .int .u32 m.dst, .int .u16 m.sport, .int .u16 m.dport, .int .u8 m.flags, .int .u8 m.ttl, .string m.body, .bool m.zero, .int .u32 m.frm, .int .u32 m.dest]
abbrev Mk.cells (m : Mk) : List Value := [.int .u8 m.kind, .int .u32 m.src, .int .u32 m.dst, .int .u16 m.sport, .int .u16 m.dport, .int .u8 m.flags, .int .u8 m.ttl, .string m.body, .bool m.zero, .int .u32 m.frm, .int .u32 m.dest]
/-- Its body, its protocol, its segment, its packet. -/
def mb (m : Mk) : ByteArray := m.body.extract 0 (min m.body.size 40)
def pr (m : Mk) : Int := if m.kind % 2 = 1 then 17 else 6
def tch (m : Mk) : Tc.Hd := ⟨m.sport, m.dport, 7, 0, m.flags % 64, 9, 0, ⟨#[]⟩⟩
def segS (m : Mk) (p : Int) : ByteArray := if p = 6 then Ps.fillS 6 m.src m.dst (Tc.built (tch m) (mb m)) else if m.zero = true then Ps.built m.sport m.dport (mb m) else Ps.fillS 17 m.src m.dst (Ps.built m.sport m.dport (mb m))
def iph (m : Mk) : Ip.Hd := ⟨0, 5, 0, 0, m.ttl, pr m, m.src, m.dst, ⟨#[]⟩⟩
def inS (m : Mk) : ByteArray := Ip.built (iph m) (segS m (pr m))
def quoN (m : Mk) : Nat := if m.zero = true then 28 else (inS m).size
def ich (m : Mk) : Ic.Hd := ⟨3, m.flags % 6, 1400, (inS m).extract 0 (quoN m)⟩
def oph (m : Mk) : Ip.Hd := ⟨0, 0, 0, 0, m.ttl, 1, m.frm, m.dest, ⟨#[]⟩⟩
def outS (m : Mk) : ByteArray := Ip.built (oph m) (Ic.built (ich m))
def frameS (m : Mk) : ByteArray := if m.kind % 4 < 2 then inS m else outS m
theorem mb_size (m : Mk) : (mb m).size ≤ 40 ∧ (mb m).size ≤ m.body.size := by unfold mb; rw [ByteArray.size_extract]; omega
theorem pr_or (m : Mk) : pr m = 6 ∨ pr m = 17 := by unfold pr; split <;> simp
theorem tch_right {m : Mk} (w : m.Wf) : Tc.RightP (tch m) := by
 have h1 := w.sport
 have h2 := w.dport
 have h3 := w.flags
 refine ⟨h1, h2, by show (0 : Int) ≤ 9 ∧ (9 : Int) ≤ 65535; omega, by show (0 : Int) ≤ 0 ∧ (0 : Int) ≤ 65535; omega, by show 0 ≤ m.flags % 64 ∧ m.flags % 64 ≤ 4095; omega, by show (0 : Nat) ≤ 40; omega, rfl, ?_⟩
 show Tc.optsOk [] = true
 unfold Tc.optsOk; rfl
theorem tch_wf {m : Mk} (w : m.Wf) : (tch m).Wf := by
 have h1 := w.sport
 have h2 := w.dport
 have h3 := w.flags
 have e0 : (⟨#[]⟩ : ByteArray).size = 0 := rfl
 refine ⟨?_, ?_, ?_, ?_, ?_, ?_, ?_, ?_⟩ <;> simp [tch] <;> omega
theorem tc_total (m : Mk) : Tc.btotal (tch m) (mb m) ≤ 1500 := by
 have := (mb_size m).1
 show 20 + ((⟨#[]⟩ : ByteArray).size : Int) + ((mb m).size : Int) ≤ 1500
 have : (⟨#[]⟩ : ByteArray).size = 0 := rfl
 omega
theorem tc_seg {m : Mk} (w : m.Wf) : Ps.Seg 6 (Tc.built (tch m) (mb m)) (Tc.fixA (tch m)) [0, 0] (Oct.be 2 0 ++ (mb m).data.toList) [] := by
 refine Ps.seg_tcp ?_ (Tc.fixA_length _) rfl
 rw [Tc.built_list (tch_right w) (tch_wf w), Tc.fixL_W, Tc.fixW_A]
 rfl
theorem dg_of {m : Mk} (w : m.Wf) : Ps.Dg m.src m.dst m.sport m.dport (mb m) := ⟨(Ps.inP_iff _).2 w.sport, (Ps.inP_iff _).2 w.dport, by have := (mb_size m).1; omega, w.src, w.dst⟩
/-- The check of a segment of TCP. -/
def tck (m : Mk) : List UInt8 := Oct.be 2 (Ps.ckN 6 (Ps.base 6 m.src m.dst (Tc.fixA (tch m)) (Oct.be 2 0 ++ (mb m).data.toList))).toNat
theorem tck_len (m : Mk) : (tck m).length = 2 := Oct.be_length _ _
theorem seg6_list {m : Mk} (w : m.Wf) : (segS m 6).data.toList = Tc.fixA (tch m) ++ (tck m ++ (Oct.be 2 0 ++ (mb m).data.toList)) := by
 have h := ((tc_seg w).fill w.src w.dst).2
 rw [List.append_nil] at h
 show (Ps.fillS 6 m.src m.dst (Tc.built (tch m) (mb m))).data.toList = _
 exact h
/-- The check of a datagram, or none. -/
def uck (m : Mk) : List UInt8 := if m.zero = true then [0, 0] else Oct.be 2 (Ps.dgC m.src m.dst m.sport m.dport (mb m)).toNat
theorem uck_len (m : Mk) : (uck m).length = 2 := by unfold uck; split; rfl; exact Oct.be_length _ _
theorem seg17_list {m : Mk} (w : m.Wf) : (segS m 17).data.toList = Ps.dgA m.sport m.dport (mb m).size ++ (uck m ++ (mb m).data.toList) := by
 have g := dg_of w
 unfold segS uck
 rw [if_neg (by decide)]
 split
 ·have := g.seg0.all
  rw [List.append_nil] at this
  exact this
 ·exact g.fill.2
theorem seg6_size {m : Mk} (w : m.Wf) : (segS m 6).size = 20 + (mb m).size := by
 rw [← Oct.len_eq, seg6_list w]
 simp only [List.length_append, Tc.fixA_length, tck_len, Oct.be_length, Oct.len_eq]; omega
theorem seg17_size {m : Mk} (w : m.Wf) : (segS m 17).size = 8 + (mb m).size := by
 rw [← Oct.len_eq, seg17_list w]
 simp only [List.length_append, uck_len, Oct.len_eq]
 unfold Ps.dgA
 simp only [List.length_append, Oct.be_length]; omega
theorem seg_size {m : Mk} (w : m.Wf) : 8 ≤ (segS m (pr m)).size ∧ (segS m (pr m)).size ≤ 60 := by
 have := (mb_size m).1
 rcases pr_or m with h | h <;> rw [h]
 ·rw [seg6_size w]; omega
 ·rw [seg17_size w]; omega
theorem ip_right {i f g t p s d : Int} (hi : 0 ≤ i ∧ i ≤ 65535) (hf : 0 ≤ f ∧ f ≤ 7) (hg : 0 ≤ g ∧ g ≤ 8191) (ht : 0 ≤ t ∧ t ≤ 255) (hp : 0 ≤ p ∧ p ≤ 255) : Ip.RightP ⟨0, i, f, g, t, p, s, d, ⟨#[]⟩⟩ := by
 refine ⟨by show (0 : Int) ≤ 0 ∧ (0 : Int) ≤ 255; omega, ht, hp, hi, hf, hg, by show (0 : Nat) ≤ 40; omega, rfl, ?_⟩
 show Ip.optsOk [] = true
 unfold Ip.optsOk; rfl
theorem ip_wf {i f g t p s d : Int} (hi : 0 ≤ i ∧ i ≤ 65535) (hf : 0 ≤ f ∧ f ≤ 7) (hg : 0 ≤ g ∧ g ≤ 8191) (ht : 0 ≤ t ∧ t ≤ 255) (hp : 0 ≤ p ∧ p ≤ 255) (hs : 0 ≤ s ∧ s ≤ 4294967295) (hd : 0 ≤ d ∧ d ≤ 4294967295) : Ip.Hd.Wf ⟨0, i, f, g, t, p, s, d, ⟨#[]⟩⟩ := by
 have e0 : (⟨#[]⟩ : ByteArray).size = 0 := rfl
 refine ⟨?_, ?_, ?_, ?_, ?_, ?_, ?_, ?_, ?_⟩ <;> simp <;> omega
theorem ip_built {i f g t p s d : Int} (hi : 0 ≤ i ∧ i ≤ 65535) (hf : 0 ≤ f ∧ f ≤ 7) (hg : 0 ≤ g ∧ g ≤ 8191) (ht : 0 ≤ t ∧ t ≤ 255) (hp : 0 ≤ p ∧ p ≤ 255) (hs : 0 ≤ s ∧ s ≤ 4294967295) (hd : 0 ≤ d ∧ d ≤ 4294967295) {body : ByteArray} (hb : body.size ≤ 1480) : Ip.Built ⟨0, i, f, g, t, p, s, d, ⟨#[]⟩⟩ body :=
 ⟨ip_right hi hf hg ht hp, ip_wf hi hf hg ht hp hs hd, by show 20 + ((⟨#[]⟩ : ByteArray).size : Int) + (body.size : Int) ≤ 1500; have : (⟨#[]⟩ : ByteArray).size = 0 := rfl; omega⟩
theorem ip_size (h : Ip.Hd) (ho : h.opts.size = 0) (body : ByteArray) : (Ip.built h body).size = 20 + body.size := by rw [Ip.built_size, ho]
theorem ip_build {h : Ip.Hd} {body : ByteArray} (b : Ip.Built h body) : Ip.buildE h body = 0 ∧ Ip.buildS h body = Ip.built h body := by
 have he : Ip.buildE h body = 0 := by
  unfold Ip.buildE
  rw [if_neg (by rw [Ip.rightP_to b.r]; decide), if_neg (by have := b.l; omega)]
 exact ⟨he, by unfold Ip.buildS; rw [if_pos he]⟩
theorem in_built {m : Mk} (w : m.Wf) : Ip.Built (iph m) (segS m (pr m)) := by
 have := (seg_size w).2
 refine ip_built (by decide) (by decide) (by decide) w.ttl ?_ w.src w.dst (by omega)
 rcases pr_or m with h | h <;> rw [h] <;> decide
theorem inS_size {m : Mk} (w : m.Wf) : 28 ≤ (inS m).size ∧ (inS m).size ≤ 80 ∧ (inS m).size = 20 + (segS m (pr m)).size := by
 have := seg_size w
 have e : (inS m).size = 20 + (segS m (pr m)).size := ip_size _ rfl _
 omega
theorem quoN_rng {m : Mk} (w : m.Wf) : 28 ≤ quoN m ∧ quoN m ≤ (inS m).size := by
 have := inS_size w
 unfold quoN
 split <;> omega
theorem ich_good {m : Mk} (w : m.Wf) : Ic.Good (ich m) := by
 have h := w.flags
 exact ⟨by show (0 : Int) ≤ 3; omega, by show (3 : Int) ≤ 255; omega, by show 0 ≤ m.flags % 6; omega, by show m.flags % 6 ≤ 255; omega, by show (0 : Int) ≤ 1400; omega, by show (1400 : Int) ≤ 4294967295; omega⟩
theorem ich_body {m : Mk} (w : m.Wf) : (ich m).body.size = quoN m ∧ (ich m).body.size ≤ 80 := by
 have h1 := quoN_rng w
 have h2 := inS_size w
 have e : (ich m).body.size = quoN m := by
  show ((inS m).extract 0 (quoN m)).size = _
  rw [ByteArray.size_extract]; omega
 omega
theorem ic_size {m : Mk} (w : m.Wf) : (Ic.built (ich m)).size = 8 + quoN m := by rw [Ic.built_size (ich_good w), (ich_body w).1]
theorem out_built {m : Mk} (w : m.Wf) : Ip.Built (oph m) (Ic.built (ich m)) := by
 have := ic_size w
 have := ich_body w
 exact ip_built (by decide) (by decide) (by decide) w.ttl (by decide) w.frm w.dest (by omega)
theorem frame_size {m : Mk} (w : m.Wf) : 28 ≤ (frameS m).size ∧ (frameS m).size ≤ 120 := by
 have h := inS_size w
 have h2 := ic_size w
 have h3 := ich_body w
 have e : (outS m).size = 20 + (Ic.built (ich m)).size := ip_size _ rfl _
 unfold frameS
 split <;> omega
end Go.Proofs.YtpjaajeojiaeiaaGreatDoor
