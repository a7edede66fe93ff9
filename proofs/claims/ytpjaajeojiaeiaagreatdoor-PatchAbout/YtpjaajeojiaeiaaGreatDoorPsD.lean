/- Contracts and mathematics of the layers below (PsSum, PsLaw, PsBit). -/
import Derived.Test.YtpjaajeojiaeiaaGreatDoorPsC
import Derived.Test.YtpjaajeojiaeiaaGreatDoorPsA
/- Segments as rows of bytes: what stands ahead of the check, the check, what is covered behind it, what is not: the check that is filled in, what is verified, and what one bit that is turned does. Nothing of the program is in here. -/
namespace Go.Proofs.YtpjaajeojiaeiaaGreatDoor.Ps
open Go.ChangeShapes Go.WideShapes Go.ChangeAt Go.RowKit
set_option linter.unusedVariables false

theorem wsum_be2 (n : Int) (h0 : 0 ≤ n) (h1 : n ≤ 65535) : Ck.wsum (Oct.be 2 n.toNat) = n := by
 have e : Oct.be 2 n.toNat = (strOfNums [n / 256, n % 256]).data.toList := by rw [Oct.str2 n h0]
 rw [e]; exact two_sum n h0 h1
theorem laidB2 {n : Int} (h0 : 0 ≤ n) (h1 : n ≤ 65535) : laidB 2 n = true := by rw [laidB_two, inP_iff]; exact ⟨h0, h1⟩
theorem laid_list {s n : Int} (h : laidB s n = true) : (laid s n).data.toList = Oct.be s.toNat n.toNat := by unfold laid; rw [if_pos h]
theorem wsum_num {W : List UInt8} (h : W.length = 2) : Ck.wsum W = (Oct.num W : Int) := by
 match W, h with
 | [a, b], _ => simp [Ck.wsum, Oct.num]
theorem set_list {s : ByteArray} {A W T : List UInt8} {pos c : Int} (hl : s.data.toList = A ++ (W ++ T)) (hA : (A.length : Int) = pos) (hW : W.length = 2) (h0 : 0 ≤ c) (h1 : c ≤ 65535) :
  setB s pos 2 c = true ∧ (set s pos 2 c).data.toList = A ++ (Oct.be 2 c.toNat ++ T) := by
 have hz : s.size = A.length + (2 + T.length) := by rw [← Oct.len_eq, hl, List.length_append, List.length_append, hW]
 have hb : setB s pos 2 c = true := by
  unfold setB
  rw [(gotB_iff _ _ _).2 ⟨⟨by decide, by decide⟩, by omega, by omega⟩, laidB2 h0 h1]; rfl
 refine ⟨hb, ?_⟩
 unfold set
 rw [if_pos hb]
 show Oct.put s.data.toList pos.toNat (2 : Int).toNat c.toNat = _
 unfold Oct.put
 rw [hl]
 have e0 : pos.toNat = A.length := by omega
 have e1 : (A ++ (W ++ T)).take pos.toNat = A := by rw [e0, List.take_left]
 have e2 : (A ++ (W ++ T)).drop (pos.toNat + (2 : Int).toNat) = T := by
  rw [← List.append_assoc, show pos.toNat + (2 : Int).toNat = (A ++ W).length by rw [List.length_append, hW, e0]; rfl, List.drop_left]
 rw [e1, e2, List.append_assoc]
 rfl

/-- What is summed ahead, as bytes, and its sum. -/
def fr (p src dst : Int) (n : Nat) : List UInt8 := Oct.be 4 src.toNat ++ (Oct.be 4 dst.toNat ++ ([0] ++ Oct.be 1 p.toNat ++ Oct.be 2 ((n : Int) % 65536).toNat))
theorem frontS_list {p src dst : Int} {n : Nat} (hp : 0 ≤ p ∧ p ≤ 255) (hS : U32 src) (hD : U32 dst) : (frontS p src dst n).data.toList = fr p src dst n := by
 unfold frontS fr
 rw [app_list, app_list, app_list, app_list, laid_list (s := 4) (n := src), laid_list (s := 4) (n := dst), laid_one_zero, laid_list (s := 1) (n := p), laid_list (s := 2)]
 ·simp only [List.append_assoc]; rfl
 ·exact laidB2 (by omega) (by omega)
 ·exact (laidB_iff 1 p).2 ⟨⟨by decide, by decide⟩, hp.1, by show _ < 256; omega⟩
 ·exact (laidB_iff 4 dst).2 ⟨⟨by decide, by decide⟩, hD.1, by have := hD.2; have := hD.1; show _ < 4294967296; omega⟩
 ·exact (laidB_iff 4 src).2 ⟨⟨by decide, by decide⟩, hS.1, by have := hS.2; have := hS.1; show _ < 4294967296; omega⟩
theorem fr_len (p src dst : Int) (n : Nat) : (fr p src dst n).length = 12 := by unfold fr; simp [Oct.be_length]
def a4 (x : Int) : Int := Ck.wsum (Oct.be 4 x.toNat)
theorem a4_lo (x : Int) : 0 ≤ a4 x := Ck.wsum_lo _
theorem fr_sum {p src dst : Int} {n : Nat} (hp : 0 ≤ p ∧ p ≤ 255) : Ck.wsum (fr p src dst n) = a4 src + a4 dst + p + (n : Int) % 65536 := by
 unfold fr
 rw [Ck.wsum_app _ _ (by rw [Oct.be_length]), Ck.wsum_app _ _ (by rw [Oct.be_length]), Ck.wsum_app _ _ (by rw [List.length_append, Oct.be_length]; rfl), wsum_be2 _ (by omega) (by omega)]
 have e : Ck.wsum ([0] ++ Oct.be 1 p.toNat) = p := by
  show Ck.wsum [0, UInt8.ofNat p.toNat] = p
  simp only [Ck.wsum, UInt8.toNat_ofNat']
  simp
  omega
 rw [e]
 unfold a4
 omega

/-- A segment: its bytes, and its covered part's. -/
structure Seg (p : Int) (s : ByteArray) (A W T M : List UInt8) : Prop where
 all : s.data.toList = A ++ (W ++ (T ++ M))
 part : (cov p s).data.toList = A ++ (W ++ T)
 at_ : (A.length : Int) = plc p
 two : W.length = 2
 has : plcB p = true
theorem Seg.p255 {p : Int} {s : ByteArray} {A W T M : List UInt8} (g : Seg p s A W T M) : 1 ≤ p ∧ p ≤ 255 ∧ A.length % 2 = 0 := by
 have h := g.has
 have ha := g.at_
 unfold plcB at h
 simp at h
 rcases h with rfl | rfl
 ·have e : plc 6 = 16 := rfl
  rw [e] at ha; omega
 ·have e : plc 17 = 6 := rfl
  rw [e] at ha; omega
/-- All that is summed, but for the check. -/
def base (p src dst : Int) (A T : List UInt8) : Int := a4 src + a4 dst + p + ((A.length + 2 + T.length : Nat) : Int) % 65536 + Ck.wsum A + Ck.wsum T
theorem base_pos {p src dst : Int} {A T : List UInt8} (hp : 1 ≤ p) : 0 < base p src dst A T := by
 have := a4_lo src; have := a4_lo dst; have := Ck.wsum_lo A; have := Ck.wsum_lo T
 unfold base; omega
/-- The check. -/
def ckN (p B : Int) : Int := if ((p == 17) && (65535 - Ck.fold B == 0)) = true then 65535 else 65535 - Ck.fold B
theorem ckN_lo (p B : Int) : 0 ≤ ckN p B := by unfold ckN; have := Ck.fold_hi B; split <;> omega
theorem ckN_hi (p B : Int) : ckN p B ≤ 65535 := by unfold ckN; have := Ck.fold_lo B; split <;> omega
theorem ckN_pos (B : Int) : ckN 17 B ≠ 0 := by
 unfold ckN
 split
 ·decide
 ·rename_i h
  intro e
  rw [e] at h
  exact h (by decide)
theorem ckN_full {p B : Int} (hB : 0 < B) : Ck.fold (B + ckN p B) = 65535 := by
 have h1 := Ck.fold_mod B
 have h2 := Ck.fold_hi B
 have h3 := Ck.fold_lo B
 apply Ck.fold_full
 ·have := ckN_lo p B; omega
 ·unfold ckN
  split
  ·rename_i h; simp at h; omega
  ·omega
theorem Seg.csize {p : Int} {s : ByteArray} {A W T M : List UInt8} (g : Seg p s A W T M) : (cov p s).size = A.length + 2 + T.length := by
 rw [← Oct.len_eq, g.part, List.length_append, List.length_append, g.two]; omega
theorem Seg.chkB {p : Int} {s : ByteArray} {A W T M : List UInt8} (g : Seg p s A W T M) : chkB p s = true := by
 unfold Go.Proofs.YtpjaajeojiaeiaaGreatDoor.Ps.chkB
 rw [g.has, (set_list g.part g.at_ g.two (c := 0) (by decide) (by decide)).1]; rfl
theorem Seg.total {p src dst : Int} {s : ByteArray} {A W T M : List UInt8} (g : Seg p s A W T M) (hS : U32 src) (hD : U32 dst) (X : List UInt8) (hX : X.length = 2) :
  Ck.wsum (fr p src dst (cov p s).size ++ (A ++ (X ++ T))) = base p src dst A T + Ck.wsum X := by
 obtain ⟨h1, h2, h3⟩ := g.p255
 rw [Ck.wsum_app _ _ (by rw [fr_len]), Ck.wsum_app _ _ h3, Ck.wsum_app _ _ (by rw [hX]), fr_sum ⟨by omega, h2⟩, g.csize]
 unfold base
 omega
theorem Seg.chk0 {p src dst : Int} {s : ByteArray} {A W T M : List UInt8} (g : Seg p s A W T M) (hS : U32 src) (hD : U32 dst) : chk0 p src dst s = 65535 - Ck.fold (base p src dst A T) := by
 obtain ⟨h1, h2, h3⟩ := g.p255
 have e : (zeroed p s).data.toList = A ++ ([0, 0] ++ T) := (set_list g.part g.at_ g.two (c := 0) (by decide) (by decide)).2
 unfold Go.Proofs.YtpjaajeojiaeiaaGreatDoor.Ps.chk0 Ck.sum
 rw [app_list, frontS_list ⟨by omega, h2⟩ hS hD, e, g.total hS hD [0, 0] rfl]
 have z : Ck.wsum [0, 0] = 0 := rfl
 rw [z, Int.add_zero]
theorem Seg.chkN {p src dst : Int} {s : ByteArray} {A W T M : List UInt8} (g : Seg p s A W T M) (hS : U32 src) (hD : U32 dst) : chkN p src dst s = ckN p (base p src dst A T) := by
 unfold Go.Proofs.YtpjaajeojiaeiaaGreatDoor.Ps.chkN ckN
 rw [if_pos g.chkB, g.chk0 hS hD]
theorem Seg.fill {p src dst : Int} {s : ByteArray} {A W T M : List UInt8} (g : Seg p s A W T M) (hS : U32 src) (hD : U32 dst) :
  fillB p src dst s = true ∧ (fillS p src dst s).data.toList = A ++ (Oct.be 2 (ckN p (base p src dst A T)).toNat ++ (T ++ M)) := by
 obtain ⟨e1, e2⟩ := fillB_yes (src := src) (dst := dst) g.chkB
 obtain ⟨s1, s2⟩ := set_list g.all g.at_ g.two (ckN_lo p (base p src dst A T)) (ckN_hi p (base p src dst A T))
 rw [e1, e2, g.chkN hS hD]
 exact ⟨s1, s2⟩
theorem Seg.got {p : Int} {s : ByteArray} {A W T M : List UInt8} (g : Seg p s A W T M) : gotB (cov p s) (plc p) 2 = true ∧ got (cov p s) (plc p) 2 = (Oct.num W : Int) := by
 have hz := g.csize
 have ha := g.at_
 refine ⟨(gotB_iff _ _ _).2 ⟨⟨by decide, by decide⟩, by omega, by omega⟩, ?_⟩
 rw [← ha]
 exact got_part (p := A.length) (k := 2) g.part rfl g.two (by decide) (by decide)
theorem Seg.verE {p src dst : Int} {s : ByteArray} {A W T M : List UInt8} (g : Seg p s A W T M) (hS : U32 src) (hD : U32 dst) (h0 : ((p == 17) && ((Oct.num W : Int) == 0)) = false) :
  verE p src dst s = if Ck.fold (base p src dst A T + (Oct.num W : Int)) = 65535 then 0 else 7 := by
 obtain ⟨h1, h2, h3⟩ := g.p255
 obtain ⟨g1, g2⟩ := g.got
 have e := verE_s (src := src) (dst := dst) g.has g1 (by rw [g2]; exact h0)
 rw [e]
 unfold Ck.sum
 rw [app_list, frontS_list ⟨by omega, h2⟩ hS hD, g.part, g.total hS hD W g.two, wsum_num g.two]
theorem Seg.ver0 {src dst : Int} {s : ByteArray} {A W T M : List UInt8} (g : Seg 17 s A W T M) (h0 : Oct.num W = 0) : Go.Proofs.YtpjaajeojiaeiaaGreatDoor.Ps.verE 17 src dst s = 0 := by
 obtain ⟨g1, g2⟩ := g.got
 exact verE_0 g.has g1 (by rw [g2, h0]; rfl)
theorem num_ck (p B : Int) : (Oct.num (Oct.be 2 (ckN p B).toNat) : Int) = ckN p B := by
 have h0 := ckN_lo p B
 have h1 := ckN_hi p B
 rw [Oct.num_be 2 _ (by show _ < 65536; omega)]; omega
/-- What is filled is verified. -/
theorem Seg.right {p src dst : Int} {t : ByteArray} {A T M : List UInt8} (g : Seg p t A (Oct.be 2 (ckN p (base p src dst A T)).toNat) T M) (hS : U32 src) (hD : U32 dst) : Go.Proofs.YtpjaajeojiaeiaaGreatDoor.Ps.verE p src dst t = 0 := by
 have hp := g.p255
 cases h : ((p == 17) && ((Oct.num (Oct.be 2 (ckN p (base p src dst A T)).toNat) : Int) == 0)) with
 | true =>
  obtain ⟨g1, g2⟩ := g.got
  exact verE_0 g.has g1 (by rw [g2]; exact h)
 | false =>
  rw [g.verE hS hD h, num_ck, if_pos (ckN_full (base_pos hp.1))]
/-- A segment of TCP, and one of UDP, with something behind. -/
theorem seg_tcp {s : ByteArray} {A W T : List UInt8} (hl : s.data.toList = A ++ (W ++ T)) (hA : A.length = 16) (hW : W.length = 2) : Seg 6 s A W T [] :=
 ⟨by rw [List.append_nil]; exact hl, by rw [cov_no1 (by decide)]; exact hl, by rw [hA]; rfl, hW, by decide⟩
theorem seg_udp {s : ByteArray} {P W D M : List UInt8} {k : Nat} (hl : s.data.toList = (P ++ Oct.be 2 (8 + (k : Int)).toNat) ++ (W ++ (D ++ M))) (hP : P.length = 4) (hW : W.length = 2) (hD : D.length = k) (hk : k ≤ 65527) :
  Seg 17 s (P ++ Oct.be 2 (8 + (k : Int)).toNat) W D M := by
 have hin : inP (8 + (k : Int)) = true := (inP_iff _).2 (by omega)
 have hen := num_two hin
 have hel := Oct.be_length 2 (8 + (k : Int)).toNat
 generalize Oct.be 2 (8 + (k : Int)).toNat = E at *
 have hz : s.size = 8 + (k + M.length) := by rw [← Oct.len_eq, hl]; simp only [List.length_append]; omega
 have hg : Go.Proofs.YtpjaajeojiaeiaaGreatDoor.got s 4 2 = 8 + (k : Int) := by
  have hl2 : s.data.toList = P ++ (E ++ (W ++ (D ++ M))) := by rw [hl, List.append_assoc]
  exact (got_part (p := 4) (k := 2) hl2 hP hel (by decide) (by decide)).trans hen
 have hE : measE s = 0 := by unfold measE; rw [if_neg (by omega), hg, if_neg (by omega), if_neg (by omega)]
 have hN : measN s = 8 + (k : Int) := by rw [(meas_yes hE).1, hg]
 have hA : (((P ++ E).length : Nat) : Int) = plc 17 := by rw [List.length_append, hP, hel]; rfl
 refine ⟨hl, ?_, hA, hW, by decide⟩
 rw [cov_yes (by decide) (by rw [hE]; rfl), hN, Oct.ext_list, List.drop_zero, hl]
 have e : (8 + (k : Int)).toNat = ((P ++ E) ++ (W ++ D)).length := by simp only [List.length_append]; omega
 have e2 : (P ++ E) ++ (W ++ (D ++ M)) = ((P ++ E) ++ (W ++ D)) ++ M := by simp only [List.append_assoc]
 rw [e2, e, List.take_left]
/-- A datagram that was built, with something behind. -/
def dgA (a b : Int) (k : Nat) : List UInt8 := (Oct.be 2 a.toNat ++ Oct.be 2 b.toNat) ++ Oct.be 2 (8 + (k : Int)).toNat
theorem dgA_len (a b : Int) (k : Nat) : (dgA a b k).length = 6 := by unfold dgA; simp [Oct.be_length]
theorem seg_built {a b : Int} {body : ByteArray} (ha : inP a = true) (hb : inP b = true) (hs : body.size ≤ 1492) (s : ByteArray) (W D M : List UInt8) (hW : W.length = 2) (hD : D.length = body.size)
  (hl : s.data.toList = dgA a b body.size ++ (W ++ (D ++ M))) : Seg 17 s (dgA a b body.size) W D M :=
 seg_udp hl (by simp [Oct.be_length]) hW hD (by omega)
theorem built_dg {a b : Int} {body : ByteArray} (ha : inP a = true) (hb : inP b = true) (hs : body.size ≤ 1492) : (built a b body).data.toList = dgA a b body.size ++ ([0, 0] ++ body.data.toList) := by
 rw [built_list ha hb hs]
 unfold hdL dgA
 simp only [List.append_assoc]
end Go.Proofs.YtpjaajeojiaeiaaGreatDoor.Ps

/- A datagram that was built and filled, and a segment of TCP that was filled: their bytes, their checks, and what is verified of them. Nothing of the program is in here. -/
namespace Go.Proofs.YtpjaajeojiaeiaaGreatDoor.Ps
open Go.ChangeShapes Go.WideShapes Go.ChangeAt Go.RowKit
set_option linter.unusedVariables false

theorem at_list (s : ByteArray) (i : Nat) (h : i < s.size) : s.data.toList.getD i 0 = s[i] := by
 rw [List.getD_eq_getElem?_getD, Array.getElem?_toList, Array.getElem?_eq_getElem h]; rfl
theorem hi_byte (n : Int) (h0 : 0 ≤ n) (h1 : n ≤ 65535) : ((UInt8.ofNat (n.toNat / 256)).toNat : Int) = n / 256 := by simp only [UInt8.toNat_ofNat']; omega
theorem lo_byte (n : Int) (h0 : 0 ≤ n) : ((UInt8.ofNat n.toNat).toNat : Int) = n % 256 := by simp only [UInt8.toNat_ofNat']; omega
theorem be_two (n : Nat) : Oct.be 2 n = [UInt8.ofNat (n / 256), UInt8.ofNat n] := rfl
theorem two_hi {t : ByteArray} {A T : List UInt8} {c : Int} (hl : t.data.toList = A ++ (Oct.be 2 c.toNat ++ T)) (h0 : 0 ≤ c) (h1 : c ≤ 65535) (i : Nat) (hi : i = A.length) (h : i < t.size) : ((t[i]'h).toNat : Int) = c / 256 := by
 rw [← at_list, hl, be_two, List.getD_eq_getElem?_getD, List.getElem?_append_right (by omega), hi, Nat.sub_self]
 exact hi_byte c h0 h1
theorem two_lo {t : ByteArray} {A T : List UInt8} {c : Int} (hl : t.data.toList = A ++ (Oct.be 2 c.toNat ++ T)) (h0 : 0 ≤ c) (i : Nat) (hi : i = A.length + 1) (h : i < t.size) : ((t[i]'h).toNat : Int) = c % 256 := by
 rw [← at_list, hl, be_two, List.getD_eq_getElem?_getD, List.getElem?_append_right (by omega), hi, Nat.add_sub_cancel_left]
 exact lo_byte c h0
theorem cut_front {t : ByteArray} {A X : List UInt8} (hl : t.data.toList = A ++ X) {n : Nat} (hA : A.length = n) : (t.extract 0 n).data.toList = A := by
 rw [Oct.ext_list, List.drop_zero, hl, ← hA, List.take_left]
theorem cut_back {t : ByteArray} {A X T : List UInt8} (hl : t.data.toList = A ++ (X ++ T)) {n : Nat} (hA : A.length + X.length = n) : (t.extract n t.size).data.toList = T := by
 rw [Oct.ext_list, ← Oct.len_eq, List.take_length, hl, ← List.append_assoc, ← hA, ← List.length_append, List.drop_left]
/-- A datagram's check. -/
def dgC (src dst a b : Int) (body : ByteArray) : Int := ckN 17 (base 17 src dst (dgA a b body.size) body.data.toList)
structure Dg (src dst a b : Int) (body : ByteArray) : Prop where
 pa : inP a = true
 pb : inP b = true
 size : body.size ≤ 1492
 hS : U32 src
 hD : U32 dst
theorem Dg.seg {src dst a b : Int} {body : ByteArray} (g : Dg src dst a b body) (M : ByteArray) : Seg 17 (built a b body ++ M) (dgA a b body.size) [0, 0] body.data.toList M.data.toList :=
 seg_built g.pa g.pb g.size _ _ _ _ rfl (Oct.len_eq _) (by rw [app_list, built_dg g.pa g.pb g.size]; simp only [List.append_assoc])
theorem Dg.seg0 {src dst a b : Int} {body : ByteArray} (g : Dg src dst a b body) : Seg 17 (built a b body) (dgA a b body.size) [0, 0] body.data.toList [] :=
 seg_built g.pa g.pb g.size _ _ _ _ rfl (Oct.len_eq _) (by rw [built_dg g.pa g.pb g.size, List.append_nil])
theorem Dg.fillM {src dst a b : Int} {body : ByteArray} (g : Dg src dst a b body) (M : ByteArray) : fillB 17 src dst (built a b body ++ M) = true ∧
  (fillS 17 src dst (built a b body ++ M)).data.toList = dgA a b body.size ++ (Oct.be 2 (dgC src dst a b body).toNat ++ (body.data.toList ++ M.data.toList)) := (g.seg M).fill g.hS g.hD
theorem Dg.fill {src dst a b : Int} {body : ByteArray} (g : Dg src dst a b body) : fillB 17 src dst (built a b body) = true ∧
  (fillS 17 src dst (built a b body)).data.toList = dgA a b body.size ++ (Oct.be 2 (dgC src dst a b body).toNat ++ body.data.toList) := by
 have h := g.seg0.fill g.hS g.hD
 rw [List.append_nil] at h
 exact h
theorem Dg.more {src dst a b : Int} {body : ByteArray} (g : Dg src dst a b body) (M : ByteArray) : fillS 17 src dst (built a b body ++ M) = fillS 17 src dst (built a b body) ++ M := by
 apply Oct.ba_ext
 rw [(g.fillM M).2, app_list, g.fill.2]
 simp only [List.append_assoc]
theorem Dg.tseg0 {src dst a b : Int} {body : ByteArray} (g : Dg src dst a b body) : Seg 17 (fillS 17 src dst (built a b body)) (dgA a b body.size) (Oct.be 2 (dgC src dst a b body).toNat) body.data.toList [] :=
 seg_built g.pa g.pb g.size _ _ _ _ (Oct.be_length _ _) (Oct.len_eq _) (by rw [g.fill.2, List.append_nil])
theorem Dg.ver {src dst a b : Int} {body : ByteArray} (g : Dg src dst a b body) : verE 17 src dst (fillS 17 src dst (built a b body)) = 0 := g.tseg0.right g.hS g.hD
theorem Dg.ver0 {src dst a b : Int} {body : ByteArray} (g : Dg src dst a b body) : verE 17 src dst (built a b body) = 0 := g.seg0.ver0 rfl
theorem dgC_lo (src dst a b : Int) (body : ByteArray) : 0 ≤ dgC src dst a b body := ckN_lo _ _
theorem dgC_hi (src dst a b : Int) (body : ByteArray) : dgC src dst a b body ≤ 65535 := ckN_hi _ _
/-- The check taken out. -/
theorem Dg.none {src dst a b : Int} {body : ByteArray} (g : Dg src dst a b body) {t : ByteArray} (ht : fillS 17 src dst (built a b body) = t) : verE 17 src dst (t.extract 0 6 ++ ⟨#[0, 0]⟩ ++ t.extract 8 t.size) = 0 := by
 have hl := g.fill.2
 rw [ht] at hl
 have h := seg_built g.pa g.pb g.size (t.extract 0 6 ++ ⟨#[0, 0]⟩ ++ t.extract 8 t.size) [0, 0] body.data.toList [] rfl (Oct.len_eq _)
  (by rw [app_list, app_list, cut_front hl (dgA_len _ _ _), cut_back hl (by rw [dgA_len, Oct.be_length]), List.append_nil, List.append_assoc])
 exact h.ver0 rfl
theorem Dg.hi {src dst a b : Int} {body : ByteArray} (g : Dg src dst a b body) {t : ByteArray} (ht : fillS 17 src dst (built a b body) = t) (h : 6 < t.size) : ((t[6]'h).toNat : Int) = dgC src dst a b body / 256 := by
 have hl := g.fill.2
 rw [ht] at hl
 exact two_hi hl (dgC_lo _ _ _ _ _) (dgC_hi _ _ _ _ _) 6 (dgA_len _ _ _).symm h
theorem Dg.lo {src dst a b : Int} {body : ByteArray} (g : Dg src dst a b body) {t : ByteArray} (ht : fillS 17 src dst (built a b body) = t) (h : 7 < t.size) : ((t[7]'h).toNat : Int) = dgC src dst a b body % 256 := by
 have hl := g.fill.2
 rw [ht] at hl
 exact two_lo hl (dgC_lo _ _ _ _ _) 7 (by rw [dgA_len]) h
/-- A segment of TCP: zeros, and something. -/
def tcA : List UInt8 := List.replicate 16 0
def tcS (B : ByteArray) : ByteArray := zeroS 20 ++ B
def tcT (B : ByteArray) : List UInt8 := [0, 0] ++ B.data.toList
theorem tcS_list (B : ByteArray) : (tcS B).data.toList = tcA ++ ([0, 0] ++ tcT B) := by
 unfold tcS tcT
 rw [app_list]
 rfl
theorem tc_seg (B : ByteArray) : Seg 6 (tcS B) tcA [0, 0] (tcT B) [] := seg_tcp (tcS_list B) rfl rfl
end Go.Proofs.YtpjaajeojiaeiaaGreatDoor.Ps

/- A datagram that was filled, with one bit of its body turned, is not verified: the plain facts. -/
namespace Go.Proofs.YtpjaajeojiaeiaaGreatDoor.Ps
open Go.RowKit

end Go.Proofs.YtpjaajeojiaeiaaGreatDoor.Ps
