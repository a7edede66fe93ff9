/- Contracts and mathematics of the layers below (PsSum, PsLaw, PsBit). -/
import Derived.Test.YtpjaajeojiaeiaaGreatDoorPsC
import Derived.Test.YtpjaajeojiaeiaaGreatDoorPsA
/- Segments as rows of bytes: what stands ahead of the check, the check, what is covered behind it, what is not: the check that is filled in, what is verified, and what one bit that is turned does. Nothing of the program is in here. -/
namespace Go.Proofs.YtpjaajeojiaeiaaGreatDoor.Ps
open Go.ChangeShapes Go.WideShapes Go.ChangeAt Go.RowKit
set_option linter.unusedVariables false

theorem wsum_be2 (n : Int) (h0 : 0 ≤ n) (h1 : n ≤ 65535) : Ck.wsum (Oct.be 2 n.toNat) = n := by
  have e : Oct.be 2 n.toNat = (strOfNums [n / 256, n % 256]).data.toList := by rw [Oct.str2 n h0]
  rw [e]; exact two_sum n h0 h1
theorem laidB2 {n : Int} (h0 : 0 ≤ n) (h1 : n ≤ 65535) : laidB 2 n = true := by rw [laidB_two, inP_iff]; exact ⟨h0, h1⟩
theorem laid_list {s n : Int} (h : laidB s n = true) : (laid s n).data.toList = Oct.be s.toNat n.toNat := by unfold laid; rw [if_pos h]
theorem wsum_num {W : List UInt8} (h : W.length = 2) : Ck.wsum W = (Oct.num W : Int) := by
  match W, h with
  | [a, b], _ => simp [Ck.wsum, Oct.num]
theorem set_list {s : ByteArray} {A W T : List UInt8} {pos c : Int} (hl : s.data.toList = A ++ (W ++ T)) (hA : (A.length : Int) = pos) (hW : W.length = 2) (h0 : 0 ≤ c) (h1 : c ≤ 65535) :
    setB s pos 2 c = true ∧ (set s pos 2 c).data.toList = A ++ (Oct.be 2 c.toNat ++ T) := by
  have hz : s.size = A.length + (2 + T.length) := by rw [← Oct.len_eq, hl, List.length_append, List.length_append, hW]
  have hb : setB s pos 2 c = true := by
    unfold setB
    rw [(gotB_iff _ _ _).2 ⟨⟨by decide, by decide⟩, by omega, by omega⟩, laidB2 h0 h1]; rfl
  refine ⟨hb, ?_⟩
  unfold set
  rw [if_pos hb]
  show Oct.put s.data.toList pos.toNat (2 : Int).toNat c.toNat = _
  unfold Oct.put
  rw [hl]
  have e0 : pos.toNat = A.length := by omega
  have e1 : (A ++ (W ++ T)).take pos.toNat = A := by rw [e0, List.take_left]
  have e2 : (A ++ (W ++ T)).drop (pos.toNat + (2 : Int).toNat) = T := by
    rw [← List.append_assoc, show pos.toNat + (2 : Int).toNat = (A ++ W).length by rw [List.length_append, hW, e0]; rfl, List.drop_left]
  rw [e1, e2, List.append_assoc]
  rfl

/-- What is summed ahead, as bytes, and its sum. -/
def fr (p src dst : Int) (n : Nat) : List UInt8 := Oct.be 4 src.toNat ++ (Oct.be 4 dst.toNat ++ ([0] ++ Oct.be 1 p.toNat ++ Oct.be 2 ((n : Int) % 65536).toNat))
theorem frontS_list {p src dst : Int} {n : Nat} (hp : 0 ≤ p ∧ p ≤ 255) (hS : U32 src) (hD : U32 dst) : (frontS p src dst n).data.toList = fr p src dst n := by
  unfold frontS fr
  rw [app_list, app_list, app_list, app_list, laid_list (s := 4) (n := src), laid_list (s := 4) (n := dst), laid_one_zero, laid_list (s := 1) (n := p), laid_list (s := 2)]
  · simp only [List.append_assoc]; rfl
  · exact laidB2 (by omega) (by omega)
  · exact (laidB_iff 1 p).2 ⟨⟨by decide, by decide⟩, hp.1, by show _ < 256; omega⟩
  · exact (laidB_iff 4 dst).2 ⟨⟨by decide, by decide⟩, hD.1, by have := hD.2; have := hD.1; show _ < 4294967296; omega⟩
  · exact (laidB_iff 4 src).2 ⟨⟨by decide, by decide⟩, hS.1, by have := hS.2; have := hS.1; show _ < 4294967296; omega⟩
theorem fr_len (p src dst : Int) (n : Nat) : (fr p src dst n).length = 12 := by unfold fr; simp [Oct.be_length]
def a4 (x : Int) : Int := Ck.wsum (Oct.be 4 x.toNat)
theorem a4_lo (x : Int) : 0 ≤ a4 x := Ck.wsum_lo _
theorem two_of (n : Nat) : n / 256 % 256 * 256 + n % 256 = n % 65536 := by omega
theorem top_small {n : Nat} (h : n < 4294967296) : n / 65536 < 65536 := Nat.div_lt_of_lt_mul (by omega)
theorem four_of {n : Nat} (h : n < 4294967296) : ∃ q r : Nat, n = 65536 * q + r ∧ n / 256 / 256 / 256 % 256 * 256 + n / 256 / 256 % 256 = q ∧ n / 256 % 256 * 256 + n % 256 = r := by
  refine ⟨n / 65536, n % 65536, (Nat.div_add_mod n 65536).symm, ?_, two_of n⟩
  have h4 : n / 256 / 256 = n / 65536 := Nat.div_div_eq_div_mul n 256 256
  rw [h4, two_of, Nat.mod_eq_of_lt (top_small h)]
theorem four_mod {a b c d q r : Nat} (h3 : a * 256 + b = q) (h2 : c * 256 + d = r) : (((a : Int) * 256 + b) + ((c : Int) * 256 + d)) % 65535 = ((65536 * q + r : Nat) : Int) % 65535 := by
  omega
theorem a4_list (n : Nat) : Oct.be 4 n = [UInt8.ofNat (n / 256 / 256 / 256), UInt8.ofNat (n / 256 / 256), UInt8.ofNat (n / 256), UInt8.ofNat n] := rfl
theorem a4_wsum (n : Nat) : Ck.wsum (Oct.be 4 n) = (((n / 256 / 256 / 256 % 256 : Nat) : Int) * 256 + ((n / 256 / 256 % 256 : Nat) : Int)) + (((n / 256 % 256 : Nat) : Int) * 256 + ((n % 256 : Nat) : Int)) := by
  rw [a4_list]
  simp only [Ck.wsum, UInt8.toNat_ofNat', Nat.reducePow]
  generalize n / 256 / 256 / 256 % 256 = a
  generalize n / 256 / 256 % 256 = b
  generalize n / 256 % 256 = c
  generalize n % 256 = d
  omega
theorem a4_nat {n : Nat} (hn : n < 4294967296) : Ck.wsum (Oct.be 4 n) % 65535 = (n : Int) % 65535 := by
  obtain ⟨q, r, hq, h3, h2⟩ := four_of hn
  have k := four_mod h3 h2
  rw [← hq] at k
  rw [a4_wsum]
  exact k
theorem a4_mod {x : Int} (h : U32 x) : a4 x % 65535 = x % 65535 := by
  obtain ⟨h0, h1⟩ := h
  have hn : x.toNat < 4294967296 := by omega
  have k := a4_nat hn
  have e : ((x.toNat : Nat) : Int) = x := Int.toNat_of_nonneg h0
  rw [e] at k
  exact k
theorem fr_sum {p src dst : Int} {n : Nat} (hp : 0 ≤ p ∧ p ≤ 255) : Ck.wsum (fr p src dst n) = a4 src + a4 dst + p + (n : Int) % 65536 := by
  unfold fr
  rw [Ck.wsum_app _ _ (by rw [Oct.be_length]), Ck.wsum_app _ _ (by rw [Oct.be_length]), Ck.wsum_app _ _ (by rw [List.length_append, Oct.be_length]; rfl), wsum_be2 _ (by omega) (by omega)]
  have e : Ck.wsum ([0] ++ Oct.be 1 p.toNat) = p := by
    show Ck.wsum [0, UInt8.ofNat p.toNat] = p
    simp only [Ck.wsum, UInt8.toNat_ofNat']
    simp
    omega
  rw [e]
  unfold a4
  omega

/-- A segment: its bytes, and its covered part's. -/
structure Seg (p : Int) (s : ByteArray) (A W T M : List UInt8) : Prop where
  all : s.data.toList = A ++ (W ++ (T ++ M))
  part : (cov p s).data.toList = A ++ (W ++ T)
  at_ : (A.length : Int) = plc p
  two : W.length = 2
  has : plcB p = true
theorem Seg.p255 {p : Int} {s : ByteArray} {A W T M : List UInt8} (g : Seg p s A W T M) : 1 ≤ p ∧ p ≤ 255 ∧ A.length % 2 = 0 := by
  have h := g.has
  have ha := g.at_
  unfold plcB at h
  simp at h
  rcases h with rfl | rfl
  · have e : plc 6 = 16 := rfl
    rw [e] at ha; omega
  · have e : plc 17 = 6 := rfl
    rw [e] at ha; omega
/-- All that is summed, but for the check. -/
def base (p src dst : Int) (A T : List UInt8) : Int := a4 src + a4 dst + p + ((A.length + 2 + T.length : Nat) : Int) % 65536 + Ck.wsum A + Ck.wsum T
theorem base_pos {p src dst : Int} {A T : List UInt8} (hp : 1 ≤ p) : 0 < base p src dst A T := by
  have := a4_lo src; have := a4_lo dst; have := Ck.wsum_lo A; have := Ck.wsum_lo T
  unfold base; omega
/-- The check. -/
def ckN (p B : Int) : Int := if ((p == 17) && (65535 - Ck.fold B == 0)) = true then 65535 else 65535 - Ck.fold B
theorem ckN_lo (p B : Int) : 0 ≤ ckN p B := by unfold ckN; have := Ck.fold_hi B; split <;> omega
theorem ckN_hi (p B : Int) : ckN p B ≤ 65535 := by unfold ckN; have := Ck.fold_lo B; split <;> omega
theorem ckN_pos (B : Int) : ckN 17 B ≠ 0 := by
  unfold ckN
  split
  · decide
  · rename_i h
    intro e
    rw [e] at h
    exact h (by decide)
theorem ckN_full {p B : Int} (hB : 0 < B) : Ck.fold (B + ckN p B) = 65535 := by
  have h1 := Ck.fold_mod B
  have h2 := Ck.fold_hi B
  have h3 := Ck.fold_lo B
  apply Ck.fold_full
  · have := ckN_lo p B; omega
  · unfold ckN
    split
    · rename_i h; simp at h; omega
    · omega
theorem Seg.csize {p : Int} {s : ByteArray} {A W T M : List UInt8} (g : Seg p s A W T M) : (cov p s).size = A.length + 2 + T.length := by
  rw [← Oct.len_eq, g.part, List.length_append, List.length_append, g.two]; omega
theorem Seg.chkB {p : Int} {s : ByteArray} {A W T M : List UInt8} (g : Seg p s A W T M) : chkB p s = true := by
  unfold Go.Proofs.YtpjaajeojiaeiaaGreatDoor.Ps.chkB
  rw [g.has, (set_list g.part g.at_ g.two (c := 0) (by decide) (by decide)).1]; rfl
theorem Seg.total {p src dst : Int} {s : ByteArray} {A W T M : List UInt8} (g : Seg p s A W T M) (hS : U32 src) (hD : U32 dst) (X : List UInt8) (hX : X.length = 2) :
    Ck.wsum (fr p src dst (cov p s).size ++ (A ++ (X ++ T))) = base p src dst A T + Ck.wsum X := by
  obtain ⟨h1, h2, h3⟩ := g.p255
  rw [Ck.wsum_app _ _ (by rw [fr_len]), Ck.wsum_app _ _ h3, Ck.wsum_app _ _ (by rw [hX]), fr_sum ⟨by omega, h2⟩, g.csize]
  unfold base
  omega
theorem Seg.chk0 {p src dst : Int} {s : ByteArray} {A W T M : List UInt8} (g : Seg p s A W T M) (hS : U32 src) (hD : U32 dst) : chk0 p src dst s = 65535 - Ck.fold (base p src dst A T) := by
  obtain ⟨h1, h2, h3⟩ := g.p255
  have e : (zeroed p s).data.toList = A ++ ([0, 0] ++ T) := (set_list g.part g.at_ g.two (c := 0) (by decide) (by decide)).2
  unfold Go.Proofs.YtpjaajeojiaeiaaGreatDoor.Ps.chk0 Ck.sum
  rw [app_list, frontS_list ⟨by omega, h2⟩ hS hD, e, g.total hS hD [0, 0] rfl]
  have z : Ck.wsum [0, 0] = 0 := rfl
  rw [z, Int.add_zero]
theorem Seg.chkN {p src dst : Int} {s : ByteArray} {A W T M : List UInt8} (g : Seg p s A W T M) (hS : U32 src) (hD : U32 dst) : chkN p src dst s = ckN p (base p src dst A T) := by
  unfold Go.Proofs.YtpjaajeojiaeiaaGreatDoor.Ps.chkN ckN
  rw [if_pos g.chkB, g.chk0 hS hD]
theorem Seg.fill {p src dst : Int} {s : ByteArray} {A W T M : List UInt8} (g : Seg p s A W T M) (hS : U32 src) (hD : U32 dst) :
    fillB p src dst s = true ∧ (fillS p src dst s).data.toList = A ++ (Oct.be 2 (ckN p (base p src dst A T)).toNat ++ (T ++ M)) := by
  obtain ⟨e1, e2⟩ := fillB_yes (src := src) (dst := dst) g.chkB
  obtain ⟨s1, s2⟩ := set_list g.all g.at_ g.two (ckN_lo p (base p src dst A T)) (ckN_hi p (base p src dst A T))
  rw [e1, e2, g.chkN hS hD]
  exact ⟨s1, s2⟩
theorem Seg.got {p : Int} {s : ByteArray} {A W T M : List UInt8} (g : Seg p s A W T M) : gotB (cov p s) (plc p) 2 = true ∧ got (cov p s) (plc p) 2 = (Oct.num W : Int) := by
  have hz := g.csize
  have ha := g.at_
  refine ⟨(gotB_iff _ _ _).2 ⟨⟨by decide, by decide⟩, by omega, by omega⟩, ?_⟩
  rw [← ha]
  exact got_part (p := A.length) (k := 2) g.part rfl g.two (by decide) (by decide)
theorem Seg.verE {p src dst : Int} {s : ByteArray} {A W T M : List UInt8} (g : Seg p s A W T M) (hS : U32 src) (hD : U32 dst) (h0 : ((p == 17) && ((Oct.num W : Int) == 0)) = false) :
    verE p src dst s = if Ck.fold (base p src dst A T + (Oct.num W : Int)) = 65535 then 0 else 7 := by
  obtain ⟨h1, h2, h3⟩ := g.p255
  obtain ⟨g1, g2⟩ := g.got
  have e := verE_s (src := src) (dst := dst) g.has g1 (by rw [g2]; exact h0)
  rw [e]
  unfold Ck.sum
  rw [app_list, frontS_list ⟨by omega, h2⟩ hS hD, g.part, g.total hS hD W g.two, wsum_num g.two]
theorem Seg.ver0 {src dst : Int} {s : ByteArray} {A W T M : List UInt8} (g : Seg 17 s A W T M) (h0 : Oct.num W = 0) : Go.Proofs.YtpjaajeojiaeiaaGreatDoor.Ps.verE 17 src dst s = 0 := by
  obtain ⟨g1, g2⟩ := g.got
  exact verE_0 g.has g1 (by rw [g2, h0]; rfl)
theorem num_ck (p B : Int) : (Oct.num (Oct.be 2 (ckN p B).toNat) : Int) = ckN p B := by
  have h0 := ckN_lo p B
  have h1 := ckN_hi p B
  rw [Oct.num_be 2 _ (by show _ < 65536; omega)]; omega
/-- What is filled is verified. -/
theorem Seg.right {p src dst : Int} {t : ByteArray} {A T M : List UInt8} (g : Seg p t A (Oct.be 2 (ckN p (base p src dst A T)).toNat) T M) (hS : U32 src) (hD : U32 dst) : Go.Proofs.YtpjaajeojiaeiaaGreatDoor.Ps.verE p src dst t = 0 := by
  have hp := g.p255
  cases h : ((p == 17) && ((Oct.num (Oct.be 2 (ckN p (base p src dst A T)).toNat) : Int) == 0)) with
  | true =>
    obtain ⟨g1, g2⟩ := g.got
    exact verE_0 g.has g1 (by rw [g2]; exact h)
  | false =>
    rw [g.verE hS hD h, num_ck, if_pos (ckN_full (base_pos hp.1))]
theorem base_turned (p src dst : Int) (A T : List UInt8) : base p dst src A T = base p src dst A T := by unfold base; omega
/-- What differs by something that is no multiple of 65535 is not verified. -/
theorem Seg.wrong {p src dst : Int} {t : ByteArray} {A W T M : List UInt8} (g : Seg p t A W T M) (hS : U32 src) (hD : U32 dst) (h0 : ((p == 17) && ((Oct.num W : Int) == 0)) = false) {B : Int} (hB : (B + (Oct.num W : Int)) % 65535 = 0)
    (hd : (base p src dst A T - B) % 65535 ≠ 0) : Go.Proofs.YtpjaajeojiaeiaaGreatDoor.Ps.verE p src dst t = 7 := by
  rw [g.verE hS hD h0, if_neg]
  intro h
  have := Ck.fold_mod (base p src dst A T + (Oct.num W : Int))
  omega
theorem ck_mod {p B : Int} (hB : 0 < B) : (B + ckN p B) % 65535 = 0 := by
  have := Ck.fold_mod (B + ckN p B)
  rw [ckN_full hB] at this
  omega

/-- A segment of TCP, and one of UDP, with something behind. -/
theorem seg_tcp {s : ByteArray} {A W T : List UInt8} (hl : s.data.toList = A ++ (W ++ T)) (hA : A.length = 16) (hW : W.length = 2) : Seg 6 s A W T [] :=
  ⟨by rw [List.append_nil]; exact hl, by rw [cov_no1 (by decide)]; exact hl, by rw [hA]; rfl, hW, by decide⟩
theorem seg_udp {s : ByteArray} {P W D M : List UInt8} {k : Nat} (hl : s.data.toList = (P ++ Oct.be 2 (8 + (k : Int)).toNat) ++ (W ++ (D ++ M))) (hP : P.length = 4) (hW : W.length = 2) (hD : D.length = k) (hk : k ≤ 65527) :
    Seg 17 s (P ++ Oct.be 2 (8 + (k : Int)).toNat) W D M := by
  have hin : inP (8 + (k : Int)) = true := (inP_iff _).2 (by omega)
  have hen := num_two hin
  have hel := Oct.be_length 2 (8 + (k : Int)).toNat
  generalize Oct.be 2 (8 + (k : Int)).toNat = E at *
  have hz : s.size = 8 + (k + M.length) := by rw [← Oct.len_eq, hl]; simp only [List.length_append]; omega
  have hg : Go.Proofs.YtpjaajeojiaeiaaGreatDoor.got s 4 2 = 8 + (k : Int) := by
    have hl2 : s.data.toList = P ++ (E ++ (W ++ (D ++ M))) := by rw [hl, List.append_assoc]
    exact (got_part (p := 4) (k := 2) hl2 hP hel (by decide) (by decide)).trans hen
  have hE : measE s = 0 := by unfold measE; rw [if_neg (by omega), hg, if_neg (by omega), if_neg (by omega)]
  have hN : measN s = 8 + (k : Int) := by rw [(meas_yes hE).1, hg]
  have hA : (((P ++ E).length : Nat) : Int) = plc 17 := by rw [List.length_append, hP, hel]; rfl
  refine ⟨hl, ?_, hA, hW, by decide⟩
  rw [cov_yes (by decide) (by rw [hE]; rfl), hN, Oct.ext_list, List.drop_zero, hl]
  have e : (8 + (k : Int)).toNat = ((P ++ E) ++ (W ++ D)).length := by simp only [List.length_append]; omega
  have e2 : (P ++ E) ++ (W ++ (D ++ M)) = ((P ++ E) ++ (W ++ D)) ++ M := by simp only [List.append_assoc]
  rw [e2, e, List.take_left]
/-- A datagram that was built, with something behind. -/
def dgA (a b : Int) (k : Nat) : List UInt8 := (Oct.be 2 a.toNat ++ Oct.be 2 b.toNat) ++ Oct.be 2 (8 + (k : Int)).toNat
theorem dgA_len (a b : Int) (k : Nat) : (dgA a b k).length = 6 := by unfold dgA; simp [Oct.be_length]
theorem seg_built {a b : Int} {body : ByteArray} (ha : inP a = true) (hb : inP b = true) (hs : body.size ≤ 1492) (s : ByteArray) (W D M : List UInt8) (hW : W.length = 2) (hD : D.length = body.size)
    (hl : s.data.toList = dgA a b body.size ++ (W ++ (D ++ M))) : Seg 17 s (dgA a b body.size) W D M :=
  seg_udp hl (by simp [Oct.be_length]) hW hD (by omega)
theorem built_dg {a b : Int} {body : ByteArray} (ha : inP a = true) (hb : inP b = true) (hs : body.size ≤ 1492) : (built a b body).data.toList = dgA a b body.size ++ ([0, 0] ++ body.data.toList) := by
  rw [built_list ha hb hs]
  unfold hdL dgA
  simp only [List.append_assoc]
end Go.Proofs.YtpjaajeojiaeiaaGreatDoor.Ps

/- A datagram that was built and filled, and a segment of TCP that was filled: their bytes, their checks, and what is verified of them. Nothing of the program is in here. -/
namespace Go.Proofs.YtpjaajeojiaeiaaGreatDoor.Ps
open Go.ChangeShapes Go.WideShapes Go.ChangeAt Go.RowKit
set_option linter.unusedVariables false

theorem at_list (s : ByteArray) (i : Nat) (h : i < s.size) : s.data.toList.getD i 0 = s[i] := by
  rw [List.getD_eq_getElem?_getD, Array.getElem?_toList, Array.getElem?_eq_getElem h]; rfl
theorem hi_byte (n : Int) (h0 : 0 ≤ n) (h1 : n ≤ 65535) : ((UInt8.ofNat (n.toNat / 256)).toNat : Int) = n / 256 := by simp only [UInt8.toNat_ofNat']; omega
theorem lo_byte (n : Int) (h0 : 0 ≤ n) : ((UInt8.ofNat n.toNat).toNat : Int) = n % 256 := by simp only [UInt8.toNat_ofNat']; omega
theorem be_two (n : Nat) : Oct.be 2 n = [UInt8.ofNat (n / 256), UInt8.ofNat n] := rfl
theorem join_bytes (n : Int) (h0 : 0 ≤ n) (h1 : n ≤ 65535) : bits .or .i64 (n / 256 * 256) (n % 256) = n := by
  rw [Oct.or_byte (n / 256) (n % 256) (by omega) (by omega) (by omega) (by omega)]; omega
theorem two_hi {t : ByteArray} {A T : List UInt8} {c : Int} (hl : t.data.toList = A ++ (Oct.be 2 c.toNat ++ T)) (h0 : 0 ≤ c) (h1 : c ≤ 65535) (i : Nat) (hi : i = A.length) (h : i < t.size) : ((t[i]'h).toNat : Int) = c / 256 := by
  rw [← at_list, hl, be_two, List.getD_eq_getElem?_getD, List.getElem?_append_right (by omega), hi, Nat.sub_self]
  exact hi_byte c h0 h1
theorem two_lo {t : ByteArray} {A T : List UInt8} {c : Int} (hl : t.data.toList = A ++ (Oct.be 2 c.toNat ++ T)) (h0 : 0 ≤ c) (i : Nat) (hi : i = A.length + 1) (h : i < t.size) : ((t[i]'h).toNat : Int) = c % 256 := by
  rw [← at_list, hl, be_two, List.getD_eq_getElem?_getD, List.getElem?_append_right (by omega), hi, Nat.add_sub_cancel_left]
  exact lo_byte c h0
theorem cut_front {t : ByteArray} {A X : List UInt8} (hl : t.data.toList = A ++ X) {n : Nat} (hA : A.length = n) : (t.extract 0 n).data.toList = A := by
  rw [Oct.ext_list, List.drop_zero, hl, ← hA, List.take_left]
theorem cut_back {t : ByteArray} {A X T : List UInt8} (hl : t.data.toList = A ++ (X ++ T)) {n : Nat} (hA : A.length + X.length = n) : (t.extract n t.size).data.toList = T := by
  rw [Oct.ext_list, ← Oct.len_eq, List.take_length, hl, ← List.append_assoc, ← hA, ← List.length_append, List.drop_left]
theorem cut_mid {t : ByteArray} {A X T : List UInt8} (hl : t.data.toList = A ++ (X ++ T)) {a b : Nat} (hA : A.length = a) (hX : A.length + X.length = b) : (t.extract a b).data.toList = X := by
  rw [Oct.ext_list, hl, ← List.append_assoc, ← hX, ← List.length_append, List.take_left, ← hA, List.drop_left]

/-- A datagram's check. -/
def dgC (src dst a b : Int) (body : ByteArray) : Int := ckN 17 (base 17 src dst (dgA a b body.size) body.data.toList)
structure Dg (src dst a b : Int) (body : ByteArray) : Prop where
  pa : inP a = true
  pb : inP b = true
  size : body.size ≤ 1492
  hS : U32 src
  hD : U32 dst
theorem Dg.seg {src dst a b : Int} {body : ByteArray} (g : Dg src dst a b body) (M : ByteArray) : Seg 17 (built a b body ++ M) (dgA a b body.size) [0, 0] body.data.toList M.data.toList :=
  seg_built g.pa g.pb g.size _ _ _ _ rfl (Oct.len_eq _) (by rw [app_list, built_dg g.pa g.pb g.size]; simp only [List.append_assoc])
theorem Dg.seg0 {src dst a b : Int} {body : ByteArray} (g : Dg src dst a b body) : Seg 17 (built a b body) (dgA a b body.size) [0, 0] body.data.toList [] :=
  seg_built g.pa g.pb g.size _ _ _ _ rfl (Oct.len_eq _) (by rw [built_dg g.pa g.pb g.size, List.append_nil])
theorem Dg.fillM {src dst a b : Int} {body : ByteArray} (g : Dg src dst a b body) (M : ByteArray) : fillB 17 src dst (built a b body ++ M) = true ∧
    (fillS 17 src dst (built a b body ++ M)).data.toList = dgA a b body.size ++ (Oct.be 2 (dgC src dst a b body).toNat ++ (body.data.toList ++ M.data.toList)) := (g.seg M).fill g.hS g.hD
theorem Dg.fill {src dst a b : Int} {body : ByteArray} (g : Dg src dst a b body) : fillB 17 src dst (built a b body) = true ∧
    (fillS 17 src dst (built a b body)).data.toList = dgA a b body.size ++ (Oct.be 2 (dgC src dst a b body).toNat ++ body.data.toList) := by
  have h := g.seg0.fill g.hS g.hD
  rw [List.append_nil] at h
  exact h
theorem Dg.more {src dst a b : Int} {body : ByteArray} (g : Dg src dst a b body) (M : ByteArray) : fillS 17 src dst (built a b body ++ M) = fillS 17 src dst (built a b body) ++ M := by
  apply Oct.ba_ext
  rw [(g.fillM M).2, app_list, g.fill.2]
  simp only [List.append_assoc]
theorem Dg.tsize {src dst a b : Int} {body : ByteArray} (g : Dg src dst a b body) : (fillS 17 src dst (built a b body)).size = 8 + body.size := by
  rw [← Oct.len_eq, g.fill.2, List.length_append, List.length_append, dgA_len, Oct.be_length, Oct.len_eq]; omega
theorem Dg.tseg {src dst a b : Int} {body : ByteArray} (g : Dg src dst a b body) (M : ByteArray) : Seg 17 (fillS 17 src dst (built a b body) ++ M) (dgA a b body.size) (Oct.be 2 (dgC src dst a b body).toNat) body.data.toList M.data.toList :=
  seg_built g.pa g.pb g.size _ _ _ _ (Oct.be_length _ _) (Oct.len_eq _) (by rw [app_list, g.fill.2]; simp only [List.append_assoc])
theorem Dg.tseg0 {src dst a b : Int} {body : ByteArray} (g : Dg src dst a b body) : Seg 17 (fillS 17 src dst (built a b body)) (dgA a b body.size) (Oct.be 2 (dgC src dst a b body).toNat) body.data.toList [] :=
  seg_built g.pa g.pb g.size _ _ _ _ (Oct.be_length _ _) (Oct.len_eq _) (by rw [g.fill.2, List.append_nil])
theorem Dg.verM {src dst a b : Int} {body : ByteArray} (g : Dg src dst a b body) (M : ByteArray) : verE 17 src dst (fillS 17 src dst (built a b body) ++ M) = 0 := (g.tseg M).right g.hS g.hD
theorem Dg.ver {src dst a b : Int} {body : ByteArray} (g : Dg src dst a b body) : verE 17 src dst (fillS 17 src dst (built a b body)) = 0 := g.tseg0.right g.hS g.hD
theorem Dg.verTurned {src dst a b : Int} {body : ByteArray} (g : Dg src dst a b body) : verE 17 dst src (fillS 17 src dst (built a b body)) = 0 := by
  have h := g.tseg0
  unfold dgC at h
  rw [← base_turned] at h
  exact h.right g.hD g.hS
theorem Dg.ver0 {src dst a b : Int} {body : ByteArray} (g : Dg src dst a b body) : verE 17 src dst (built a b body) = 0 := g.seg0.ver0 rfl
theorem Dg.chkS {src dst a b : Int} {body : ByteArray} (g : Dg src dst a b body) : chkB 17 (built a b body) = true ∧ chkN 17 src dst (built a b body) = dgC src dst a b body := ⟨g.seg0.chkB, g.seg0.chkN g.hS g.hD⟩
theorem Dg.chkT {src dst a b : Int} {body : ByteArray} (g : Dg src dst a b body) : chkB 17 (fillS 17 src dst (built a b body)) = true ∧ chkN 17 src dst (fillS 17 src dst (built a b body)) = dgC src dst a b body := ⟨g.tseg0.chkB, g.tseg0.chkN g.hS g.hD⟩
theorem dgC_lo (src dst a b : Int) (body : ByteArray) : 0 ≤ dgC src dst a b body := ckN_lo _ _
theorem dgC_hi (src dst a b : Int) (body : ByteArray) : dgC src dst a b body ≤ 65535 := ckN_hi _ _
theorem dgC_ne (src dst a b : Int) (body : ByteArray) : (dgC src dst a b body != 0) = true := by unfold dgC; simpa using ckN_pos _
/-- The check taken out. -/
theorem Dg.none {src dst a b : Int} {body : ByteArray} (g : Dg src dst a b body) {t : ByteArray} (ht : fillS 17 src dst (built a b body) = t) : verE 17 src dst (t.extract 0 6 ++ ⟨#[0, 0]⟩ ++ t.extract 8 t.size) = 0 := by
  have hl := g.fill.2
  rw [ht] at hl
  have h := seg_built g.pa g.pb g.size (t.extract 0 6 ++ ⟨#[0, 0]⟩ ++ t.extract 8 t.size) [0, 0] body.data.toList [] rfl (Oct.len_eq _)
    (by rw [app_list, app_list, cut_front hl (dgA_len _ _ _), cut_back hl (by rw [dgA_len, Oct.be_length]), List.append_nil, List.append_assoc])
  exact h.ver0 rfl
theorem Dg.hi {src dst a b : Int} {body : ByteArray} (g : Dg src dst a b body) {t : ByteArray} (ht : fillS 17 src dst (built a b body) = t) (h : 6 < t.size) : ((t[6]'h).toNat : Int) = dgC src dst a b body / 256 := by
  have hl := g.fill.2
  rw [ht] at hl
  exact two_hi hl (dgC_lo _ _ _ _ _) (dgC_hi _ _ _ _ _) 6 (dgA_len _ _ _).symm h
theorem Dg.lo {src dst a b : Int} {body : ByteArray} (g : Dg src dst a b body) {t : ByteArray} (ht : fillS 17 src dst (built a b body) = t) (h : 7 < t.size) : ((t[7]'h).toNat : Int) = dgC src dst a b body % 256 := by
  have hl := g.fill.2
  rw [ht] at hl
  exact two_lo hl (dgC_lo _ _ _ _ _) 7 (by rw [dgA_len]) h
/-- What is filled differs in its check alone, which is not 0. -/
theorem Dg.front {src dst a b : Int} {body : ByteArray} (g : Dg src dst a b body) : (fillS 17 src dst (built a b body)).extract 0 6 = (built a b body).extract 0 6 := by
  apply Oct.ba_ext
  rw [cut_front g.fill.2 (dgA_len _ _ _), cut_front (built_dg g.pa g.pb g.size) (dgA_len _ _ _)]
theorem Dg.back {src dst a b : Int} {body : ByteArray} (g : Dg src dst a b body) : (fillS 17 src dst (built a b body)).extract 8 (fillS 17 src dst (built a b body)).size = (built a b body).extract 8 (built a b body).size := by
  apply Oct.ba_ext
  rw [cut_back g.fill.2 (by rw [dgA_len, Oct.be_length]), cut_back (built_dg g.pa g.pb g.size) (by rw [dgA_len]; rfl)]
theorem Dg.notZero {src dst a b : Int} {body : ByteArray} (g : Dg src dst a b body) : (fillS 17 src dst (built a b body)).extract 6 8 ≠ ⟨#[0, 0]⟩ := by
  intro h
  have h2 := cut_mid (a := 6) (b := 8) g.fill.2 (dgA_len _ _ _) (by rw [dgA_len, Oct.be_length])
  rw [h] at h2
  have h3 := num_ck 17 (base 17 src dst (dgA a b body.size) body.data.toList)
  have h4 := ckN_pos (base 17 src dst (dgA a b body.size) body.data.toList)
  unfold dgC at h2
  rw [← h2] at h3
  exact h4 (h3.symm.trans rfl)

/-- A segment of TCP: zeros, and something. -/
def tcA : List UInt8 := List.replicate 16 0
def tcS (B : ByteArray) : ByteArray := zeroS 20 ++ B
def tcT (B : ByteArray) : List UInt8 := [0, 0] ++ B.data.toList
theorem tcS_list (B : ByteArray) : (tcS B).data.toList = tcA ++ ([0, 0] ++ tcT B) := by
  unfold tcS tcT
  rw [app_list]
  rfl
def tcC (src dst : Int) (B : ByteArray) : Int := ckN 6 (base 6 src dst tcA (tcT B))
theorem tcC_lo (src dst : Int) (B : ByteArray) : 0 ≤ tcC src dst B := ckN_lo _ _
theorem tcC_hi (src dst : Int) (B : ByteArray) : tcC src dst B ≤ 65535 := ckN_hi _ _
theorem tc_seg (B : ByteArray) : Seg 6 (tcS B) tcA [0, 0] (tcT B) [] := seg_tcp (tcS_list B) rfl rfl
theorem tc_fill {src dst : Int} (B : ByteArray) (hS : U32 src) (hD : U32 dst) : fillB 6 src dst (tcS B) = true ∧ (fillS 6 src dst (tcS B)).data.toList = tcA ++ (Oct.be 2 (tcC src dst B).toNat ++ tcT B) := by
  have h := (tc_seg B).fill hS hD
  rw [List.append_nil] at h
  exact h
theorem tc_tseg {src dst : Int} (B : ByteArray) (hS : U32 src) (hD : U32 dst) : Seg 6 (fillS 6 src dst (tcS B)) tcA (Oct.be 2 (tcC src dst B).toNat) (tcT B) [] := seg_tcp (tc_fill B hS hD).2 rfl (Oct.be_length _ _)
theorem tc_ver {src dst : Int} (B : ByteArray) (hS : U32 src) (hD : U32 dst) : verE 6 src dst (fillS 6 src dst (tcS B)) = 0 := (tc_tseg B hS hD).right hS hD
theorem tc_size {src dst : Int} (B : ByteArray) (hS : U32 src) (hD : U32 dst) : (fillS 6 src dst (tcS B)).size = 20 + B.size := by
  rw [← Oct.len_eq, (tc_fill B hS hD).2, List.length_append, List.length_append, Oct.be_length]
  unfold tcT tcA
  rw [List.length_append, List.length_replicate, Oct.len_eq]
  show 16 + (2 + (2 + _)) = _
  omega
theorem tcS_size (B : ByteArray) : (tcS B).size = 20 + B.size := by unfold tcS; rw [ByteArray.size_append, zeroS_size]
theorem tc_front {src dst : Int} (B : ByteArray) (hS : U32 src) (hD : U32 dst) : (fillS 6 src dst (tcS B)).extract 0 16 = (tcS B).extract 0 16 := by
  apply Oct.ba_ext
  rw [cut_front (tc_fill B hS hD).2 (by rfl), cut_front (tcS_list B) (by rfl)]
theorem tc_back {src dst : Int} (B : ByteArray) (hS : U32 src) (hD : U32 dst) : (fillS 6 src dst (tcS B)).extract 18 (fillS 6 src dst (tcS B)).size = (tcS B).extract 18 (tcS B).size := by
  apply Oct.ba_ext
  rw [cut_back (tc_fill B hS hD).2 (by rw [Oct.be_length]; rfl), cut_back (tcS_list B) (by rfl)]
theorem tc_hi {src dst : Int} (B : ByteArray) (hS : U32 src) (hD : U32 dst) {t : ByteArray} (ht : fillS 6 src dst (tcS B) = t) (h : 16 < t.size) : ((t[16]'h).toNat : Int) = tcC src dst B / 256 := by
  have hl := (tc_fill B hS hD).2
  rw [ht] at hl
  exact two_hi hl (tcC_lo _ _ _) (tcC_hi _ _ _) 16 rfl h
theorem tc_lo {src dst : Int} (B : ByteArray) (hS : U32 src) (hD : U32 dst) {t : ByteArray} (ht : fillS 6 src dst (tcS B) = t) (h : 17 < t.size) : ((t[17]'h).toNat : Int) = tcC src dst B % 256 := by
  have hl := (tc_fill B hS hD).2
  rw [ht] at hl
  exact two_lo hl (tcC_lo _ _ _) 17 rfl h
theorem pow_mod : ∀ m : Fin 32, (2 ^ m.val : Int) % 65535 ≠ 0 := by decide +kernel
theorem tc_wrong {src dst x : Int} (B : ByteArray) (hS : U32 src) (hD : U32 dst) (hX : U32 x) (m : Nat) (hm : m < 32) (h : x = src + 2 ^ m ∨ x = src - 2 ^ m) : verE 6 x dst (fillS 6 src dst (tcS B)) = 7 := by
  have hq := pow_mod ⟨m, hm⟩
  simp only at hq
  refine (tc_tseg B hS hD).wrong hX hD rfl (B := base 6 src dst tcA (tcT B)) ?_ ?_
  · have := num_ck 6 (base 6 src dst tcA (tcT B))
    unfold tcC
    rw [this]
    exact ck_mod (base_pos (by decide))
  · have e1 := a4_mod hS
    have e2 := a4_mod hX
    have e3 : base 6 x dst tcA (tcT B) - base 6 src dst tcA (tcT B) = a4 x - a4 src := by unfold base; omega
    rw [e3]
    generalize (2 ^ m : Int) = P at *
    omega
theorem nat_xor (a b : Nat) : (a ^^^ b) + 2 * (a &&& b) = a + b := by
  induction a using Nat.strongRecOn generalizing b with
  | _ a ih =>
    by_cases h : a = 0
    · subst h; simp
    · have q := ih (a / 2) (by omega) (b / 2)
      have x2 : (a ^^^ b) / 2 = a / 2 ^^^ b / 2 := Nat.xor_div_two
      have y2 : (a &&& b) / 2 = a / 2 &&& b / 2 := Nat.and_div_two
      have xm : (a ^^^ b) % 2 = (a + b) % 2 := by
        have e : (a ^^^ b) % 2 = (a % 2) ^^^ (b % 2) := Nat.xor_mod_two_pow (n := 1)
        rw [e, Nat.add_mod]
        rcases Nat.mod_two_eq_zero_or_one a with ha | ha <;> rcases Nat.mod_two_eq_zero_or_one b with hb | hb <;> rw [ha, hb] <;> rfl
      have ym : (a &&& b) % 2 = a % 2 * (b % 2) := by
        have e : (a &&& b) % 2 = (a % 2) &&& (b % 2) := Nat.and_mod_two_pow (n := 1)
        rw [e]
        rcases Nat.mod_two_eq_zero_or_one a with ha | ha <;> rcases Nat.mod_two_eq_zero_or_one b with hb | hb <;> rw [ha, hb] <;> rfl
      rw [← x2, ← y2] at q
      generalize a ^^^ b = X at *
      generalize a &&& b = Y at *
      rcases Nat.mod_two_eq_zero_or_one a with ha | ha <;> rcases Nat.mod_two_eq_zero_or_one b with hb | hb <;> rw [ha, hb] at ym <;> simp at ym <;> omega
theorem and_pow (a m : Nat) : a &&& 2 ^ m = 0 ∨ a &&& 2 ^ m = 2 ^ m := by
  cases h : a.testBit m with
  | false =>
    left
    apply Nat.eq_of_testBit_eq
    intro i
    rw [Nat.testBit_and, Nat.testBit_two_pow, Nat.zero_testBit]
    by_cases e : m = i
    · subst e; rw [h]; rfl
    · simp [e]
  | true =>
    right
    apply Nat.eq_of_testBit_eq
    intro i
    rw [Nat.testBit_and, Nat.testBit_two_pow]
    by_cases e : m = i
    · subst e; rw [h]; simp
    · simp [e]
theorem nat_xor_pow (a m : Nat) : (a ^^^ 2 ^ m) = a + 2 ^ m ∨ (a ^^^ 2 ^ m) + 2 ^ m = a := by
  have h := nat_xor a (2 ^ m)
  rcases and_pow a m with e | e <;> rw [e] at h
  · left; omega
  · right; omega
theorem bits_xor_u32 (a b : Nat) (ha : a < 4294967296) (hb : b < 4294967296) : bits .xor .u32 (a : Int) (b : Int) = ((a ^^^ b : Nat) : Int) := by
  have hx : a ^^^ b < 2 ^ 32 := Nat.xor_lt_two_pow (by omega) (by omega)
  have h1 : (BitVec.ofInt 32 (a : Int)).toNat = a := by
    rw [BitVec.ofInt_natCast, BitVec.toNat_ofNat]; exact Nat.mod_eq_of_lt (by omega)
  have h2 : (BitVec.ofInt 32 (b : Int)).toNat = b := by
    rw [BitVec.ofInt_natCast, BitVec.toNat_ofNat]; exact Nat.mod_eq_of_lt (by omega)
  show IntKind.u32.wrap ((BitVec.ofInt 32 (a : Int) ^^^ BitVec.ofInt 32 (b : Int)).toNat : Int) = _
  rw [BitVec.toNat_xor, h1, h2, IntKind.wrap_u32]
  omega
theorem xor_pow (x P : Int) (m : Nat) (h0 : 0 ≤ x) (h1 : x ≤ 4294967295) (hm : m < 32) (hP : P = 2 ^ m) : (bits .xor .u32 x P = x + 2 ^ m ∨ bits .xor .u32 x P = x - 2 ^ m) ∧ U32 (bits .xor .u32 x P) := by
  subst hP
  obtain ⟨n, rfl⟩ := Int.eq_ofNat_of_zero_le h0
  have hn : n < 4294967296 := by omega
  have hp : 2 ^ m < 4294967296 := by
    have : (2 : Nat) ^ m ≤ 2 ^ 31 := Nat.pow_le_pow_right (by decide) (by omega)
    have e : (2 : Nat) ^ 31 = 2147483648 := by decide
    omega
  have hx : n ^^^ 2 ^ m < 2 ^ 32 := Nat.xor_lt_two_pow (by omega) (by omega)
  have e := bits_xor_u32 n (2 ^ m) hn hp
  have c : ((2 ^ m : Nat) : Int) = (2 : Int) ^ m := by simp
  rw [c] at e
  rw [e]
  have h := nat_xor_pow n m
  rw [← c]
  generalize n ^^^ 2 ^ m = X at *
  generalize (2 ^ m : Nat) = Q at *
  have e32 : (2 : Nat) ^ 32 = 4294967296 := by decide
  refine ⟨?_, ⟨by omega, by omega⟩⟩
  rcases h with h | h
  · left; omega
  · right; omega
end Go.Proofs.YtpjaajeojiaeiaaGreatDoor.Ps

/- A datagram that was filled, with one bit of its body turned, is not verified: the plain facts. -/
namespace Go.Proofs.YtpjaajeojiaeiaaGreatDoor.Ps
open Go.RowKit

theorem wsum_set : ∀ (l : List UInt8) (k : Nat) (y : UInt8), k < l.length → Ck.wsum (l.set k y) = Ck.wsum l + ((y.toNat : Int) - ((l.getD k 0).toNat : Int)) * (if k % 2 = 0 then 256 else 1)
  | [], k, y, h => by simp at h
  | [a], k, y, h => by
    have : k = 0 := by simp at h; omega
    subst this
    simp [Ck.wsum]; omega
  | a :: b :: r, 0, y, _ => by simp [Ck.wsum]; omega
  | a :: b :: r, 1, y, _ => by simp [Ck.wsum]; omega
  | a :: b :: r, k + 2, y, h => by
    have ih := wsum_set r k y (by simp at h; omega)
    have e : (a :: b :: r).set (k + 2) y = a :: b :: r.set k y := rfl
    have e2 : (a :: b :: r).getD (k + 2) 0 = r.getD k 0 := by simp [List.getD_eq_getElem?_getD]
    rw [e, e2]
    simp only [Ck.wsum, ih, show (k + 2) % 2 = k % 2 by omega]
    omega
theorem xor_bit : ∀ (v : Fin 256) (m : Fin 8), bits .xor .u8 (v.val : Int) (2 ^ m.val) = v.val + 2 ^ m.val ∨ bits .xor .u8 (v.val : Int) (2 ^ m.val) = v.val - 2 ^ m.val := by decide +kernel

/-- The bytes of a text with byte K another one. -/
def withB (s : ByteArray) (K : Nat) (y : UInt8) : ByteArray := ⟨(s.data.toList.set K y).toArray⟩
theorem withB_list (s : ByteArray) (K : Nat) (y : UInt8) : (withB s K y).data.toList = s.data.toList.set K y := rfl
theorem withB_size (s : ByteArray) (K : Nat) (y : UInt8) : (withB s K y).size = s.size := by rw [← Oct.len_eq, withB_list, List.length_set, Oct.len_eq]


theorem dg_bit {src dst a b : Int} {body : ByteArray} (g : Dg src dst a b body) {t : ByteArray} (ht : fillS 17 src dst (built a b body) = t) (K m : Nat) (h8 : 8 ≤ K) (hK : K < t.size) (hm : m < 8) (X : Int)
    (hX : bits .xor .u8 ((t.data.toList.getD K 0).toNat : Int) (2 ^ m) = X) (hX0 : 0 ≤ X) (hX1 : X ≤ 255) : verE 17 src dst (withB t K (UInt8.ofNat X.toNat)) = 7 := by
  have hl := g.fill.2
  have hts := g.tsize
  rw [ht] at hl hts
  have hy : ((UInt8.ofNat X.toNat).toNat : Int) = X := byte_of X hX0 (by omega)
  have hv := (t.data.toList.getD K 0).toNat_lt
  have hxb := xor_bit ⟨(t.data.toList.getD K 0).toNat, by omega⟩ ⟨m, hm⟩
  simp only [hX] at hxb
  have e1 : (withB t K (UInt8.ofNat X.toNat)).data.toList = dgA a b body.size ++ (Oct.be 2 (dgC src dst a b body).toNat ++ body.data.toList.set (K - 8) (UInt8.ofNat X.toNat)) := by
    rw [withB_list, hl, List.set_append, if_neg (by rw [dgA_len]; omega), List.set_append, if_neg (by rw [dgA_len, Oct.be_length]; omega), dgA_len, Oct.be_length, Nat.sub_sub]
  have e2 : t.data.toList.getD K 0 = body.data.toList.getD (K - 8) 0 := by
    rw [hl, List.getD_eq_getElem?_getD, List.getElem?_append_right (by rw [dgA_len]; omega), List.getElem?_append_right (by rw [dgA_len, Oct.be_length]; omega), dgA_len, Oct.be_length, Nat.sub_sub, ← List.getD_eq_getElem?_getD]
  have hs := seg_built g.pa g.pb g.size (withB t K (UInt8.ofNat X.toNat)) (Oct.be 2 (dgC src dst a b body).toNat) (body.data.toList.set (K - 8) (UInt8.ofNat X.toNat)) [] (Oct.be_length _ _) (by rw [List.length_set, Oct.len_eq]) (by rw [e1, List.append_nil])
  refine hs.wrong g.hS g.hD ?_ (B := base 17 src dst (dgA a b body.size) body.data.toList) ?_ ?_
  · unfold dgC; rw [num_ck]; simpa using ckN_pos _
  · unfold dgC; rw [num_ck]; exact ck_mod (base_pos (by decide))
  · unfold base
    rw [List.length_set, wsum_set _ _ _ (by rw [Oct.len_eq]; omega), hy, ← e2]
    generalize ((t.data.toList.getD K 0).toNat : Int) = bv at *
    generalize Ck.wsum body.data.toList = Wv at *
    generalize Ck.wsum (dgA a b body.size) = Uv at *
    generalize (((dgA a b body.size).length + 2 + body.data.toList.length : Nat) : Int) % 65536 = Lv at *
    generalize a4 src = Sv at *
    generalize a4 dst = Dv at *
    clear hl hts hy e1 e2 hs hX hv
    have hm8 : m = 0 ∨ m = 1 ∨ m = 2 ∨ m = 3 ∨ m = 4 ∨ m = 5 ∨ m = 6 ∨ m = 7 := by omega
    rcases hm8 with rfl | rfl | rfl | rfl | rfl | rfl | rfl | rfl <;> simp at hxb <;> split <;> omega
end Go.Proofs.YtpjaajeojiaeiaaGreatDoor.Ps
