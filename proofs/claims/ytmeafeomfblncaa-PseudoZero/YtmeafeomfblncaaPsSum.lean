/- Segments as rows of bytes: what stands ahead of the check, the check, what is covered behind it, what is not: the check that is filled in, what is verified, and what one bit that is turned does. Nothing of the program is in here. -/
import Derived.Test.YtmeafeomfblncaaPsEx
namespace Go.Proofs.Ytmeafeomfblncaa
open Go.ChangeShapes Go.WideShapes Go.ChangeAt Go.RowKit
set_option linter.unusedVariables false

theorem wsum_be2 (n : Int) (h0 : 0 ≤ n) (h1 : n ≤ 65535) : Ck.wsum (Oct.be 2 n.toNat) = n := by
  have e : Oct.be 2 n.toNat = (strOfNums [n / 256, n % 256]).data.toList := by rw [Oct.str2 n h0]
  rw [e]; exact two_sum n h0 h1
theorem laidB2 {n : Int} (h0 : 0 ≤ n) (h1 : n ≤ 65535) : laidB 2 n = true := by rw [laidB_two, inP_iff]; exact ⟨h0, h1⟩
theorem laid_list {s n : Int} (h : laidB s n = true) : (laid s n).data.toList = Oct.be s.toNat n.toNat := by unfold laid; rw [if_pos h]
theorem wsum_num {W : List UInt8} (h : W.length = 2) : Ck.wsum W = (Oct.num W : Int) := by
  match W, h with
  | [a, b], _ => simp [Ck.wsum, Oct.num]
theorem set_list {s : ByteArray} {A W T : List UInt8} {pos c : Int} (hl : s.data.toList = A ++ (W ++ T)) (hA : (A.length : Int) = pos) (hW : W.length = 2) (h0 : 0 ≤ c) (h1 : c ≤ 65535) :
    setB s pos 2 c = true ∧ (set s pos 2 c).data.toList = A ++ (Oct.be 2 c.toNat ++ T) := by
  have hz : s.size = A.length + (2 + T.length) := by rw [← Oct.len_eq, hl, List.length_append, List.length_append, hW]
  have hb : setB s pos 2 c = true := by
    unfold setB
    rw [(gotB_iff _ _ _).2 ⟨⟨by decide, by decide⟩, by omega, by omega⟩, laidB2 h0 h1]; rfl
  refine ⟨hb, ?_⟩
  unfold set
  rw [if_pos hb]
  show Oct.put s.data.toList pos.toNat (2 : Int).toNat c.toNat = _
  unfold Oct.put
  rw [hl]
  have e0 : pos.toNat = A.length := by omega
  have e1 : (A ++ (W ++ T)).take pos.toNat = A := by rw [e0, List.take_left]
  have e2 : (A ++ (W ++ T)).drop (pos.toNat + (2 : Int).toNat) = T := by
    rw [← List.append_assoc, show pos.toNat + (2 : Int).toNat = (A ++ W).length by rw [List.length_append, hW, e0]; rfl, List.drop_left]
  rw [e1, e2, List.append_assoc]
  rfl

/-- What is summed ahead, as bytes, and its sum. -/
def fr (p src dst : Int) (n : Nat) : List UInt8 := Oct.be 4 src.toNat ++ (Oct.be 4 dst.toNat ++ ([0] ++ Oct.be 1 p.toNat ++ Oct.be 2 ((n : Int) % 65536).toNat))
theorem frontS_list {p src dst : Int} {n : Nat} (hp : 0 ≤ p ∧ p ≤ 255) (hS : U32 src) (hD : U32 dst) : (frontS p src dst n).data.toList = fr p src dst n := by
  unfold frontS fr
  rw [app_list, app_list, app_list, app_list, laid_list (s := 4) (n := src), laid_list (s := 4) (n := dst), laid_one_zero, laid_list (s := 1) (n := p), laid_list (s := 2)]
  · simp only [List.append_assoc]; rfl
  · exact laidB2 (by omega) (by omega)
  · exact (laidB_iff 1 p).2 ⟨⟨by decide, by decide⟩, hp.1, by show _ < 256; omega⟩
  · exact (laidB_iff 4 dst).2 ⟨⟨by decide, by decide⟩, hD.1, by have := hD.2; have := hD.1; show _ < 4294967296; omega⟩
  · exact (laidB_iff 4 src).2 ⟨⟨by decide, by decide⟩, hS.1, by have := hS.2; have := hS.1; show _ < 4294967296; omega⟩
theorem fr_len (p src dst : Int) (n : Nat) : (fr p src dst n).length = 12 := by unfold fr; simp [Oct.be_length]
def a4 (x : Int) : Int := Ck.wsum (Oct.be 4 x.toNat)
theorem a4_lo (x : Int) : 0 ≤ a4 x := Ck.wsum_lo _
theorem two_of (n : Nat) : n / 256 % 256 * 256 + n % 256 = n % 65536 := by omega
theorem top_small {n : Nat} (h : n < 4294967296) : n / 65536 < 65536 := Nat.div_lt_of_lt_mul (by omega)
theorem four_of {n : Nat} (h : n < 4294967296) : ∃ q r : Nat, n = 65536 * q + r ∧ n / 256 / 256 / 256 % 256 * 256 + n / 256 / 256 % 256 = q ∧ n / 256 % 256 * 256 + n % 256 = r := by
  refine ⟨n / 65536, n % 65536, (Nat.div_add_mod n 65536).symm, ?_, two_of n⟩
  have h4 : n / 256 / 256 = n / 65536 := Nat.div_div_eq_div_mul n 256 256
  rw [h4, two_of, Nat.mod_eq_of_lt (top_small h)]
theorem four_mod {a b c d q r : Nat} (h3 : a * 256 + b = q) (h2 : c * 256 + d = r) : (((a : Int) * 256 + b) + ((c : Int) * 256 + d)) % 65535 = ((65536 * q + r : Nat) : Int) % 65535 := by
  omega
theorem a4_list (n : Nat) : Oct.be 4 n = [UInt8.ofNat (n / 256 / 256 / 256), UInt8.ofNat (n / 256 / 256), UInt8.ofNat (n / 256), UInt8.ofNat n] := rfl
theorem a4_wsum (n : Nat) : Ck.wsum (Oct.be 4 n) = (((n / 256 / 256 / 256 % 256 : Nat) : Int) * 256 + ((n / 256 / 256 % 256 : Nat) : Int)) + (((n / 256 % 256 : Nat) : Int) * 256 + ((n % 256 : Nat) : Int)) := by
  rw [a4_list]
  simp only [Ck.wsum, UInt8.toNat_ofNat', Nat.reducePow]
  generalize n / 256 / 256 / 256 % 256 = a
  generalize n / 256 / 256 % 256 = b
  generalize n / 256 % 256 = c
  generalize n % 256 = d
  omega
theorem a4_nat {n : Nat} (hn : n < 4294967296) : Ck.wsum (Oct.be 4 n) % 65535 = (n : Int) % 65535 := by
  obtain ⟨q, r, hq, h3, h2⟩ := four_of hn
  have k := four_mod h3 h2
  rw [← hq] at k
  rw [a4_wsum]
  exact k
theorem a4_mod {x : Int} (h : U32 x) : a4 x % 65535 = x % 65535 := by
  obtain ⟨h0, h1⟩ := h
  have hn : x.toNat < 4294967296 := by omega
  have k := a4_nat hn
  have e : ((x.toNat : Nat) : Int) = x := Int.toNat_of_nonneg h0
  rw [e] at k
  exact k
theorem fr_sum {p src dst : Int} {n : Nat} (hp : 0 ≤ p ∧ p ≤ 255) : Ck.wsum (fr p src dst n) = a4 src + a4 dst + p + (n : Int) % 65536 := by
  unfold fr
  rw [Ck.wsum_app _ _ (by rw [Oct.be_length]), Ck.wsum_app _ _ (by rw [Oct.be_length]), Ck.wsum_app _ _ (by rw [List.length_append, Oct.be_length]; rfl), wsum_be2 _ (by omega) (by omega)]
  have e : Ck.wsum ([0] ++ Oct.be 1 p.toNat) = p := by
    show Ck.wsum [0, UInt8.ofNat p.toNat] = p
    simp only [Ck.wsum, UInt8.toNat_ofNat']
    simp
    omega
  rw [e]
  unfold a4
  omega

/-- A segment: its bytes, and its covered part's. -/
structure Seg (p : Int) (s : ByteArray) (A W T M : List UInt8) : Prop where
  all : s.data.toList = A ++ (W ++ (T ++ M))
  part : (cov p s).data.toList = A ++ (W ++ T)
  at_ : (A.length : Int) = plc p
  two : W.length = 2
  has : plcB p = true
theorem Seg.p255 {p : Int} {s : ByteArray} {A W T M : List UInt8} (g : Seg p s A W T M) : 1 ≤ p ∧ p ≤ 255 ∧ A.length % 2 = 0 := by
  have h := g.has
  have ha := g.at_
  unfold plcB at h
  simp at h
  rcases h with rfl | rfl
  · have e : plc 6 = 16 := rfl
    rw [e] at ha; omega
  · have e : plc 17 = 6 := rfl
    rw [e] at ha; omega
/-- All that is summed, but for the check. -/
def base (p src dst : Int) (A T : List UInt8) : Int := a4 src + a4 dst + p + ((A.length + 2 + T.length : Nat) : Int) % 65536 + Ck.wsum A + Ck.wsum T
theorem base_pos {p src dst : Int} {A T : List UInt8} (hp : 1 ≤ p) : 0 < base p src dst A T := by
  have := a4_lo src; have := a4_lo dst; have := Ck.wsum_lo A; have := Ck.wsum_lo T
  unfold base; omega
/-- The check. -/
def ckN (p B : Int) : Int := if ((p == 17) && (65535 - Ck.fold B == 0)) = true then 65535 else 65535 - Ck.fold B
theorem ckN_lo (p B : Int) : 0 ≤ ckN p B := by unfold ckN; have := Ck.fold_hi B; split <;> omega
theorem ckN_hi (p B : Int) : ckN p B ≤ 65535 := by unfold ckN; have := Ck.fold_lo B; split <;> omega
theorem ckN_pos (B : Int) : ckN 17 B ≠ 0 := by
  unfold ckN
  split
  · decide
  · rename_i h
    intro e
    rw [e] at h
    exact h (by decide)
theorem ckN_full {p B : Int} (hB : 0 < B) : Ck.fold (B + ckN p B) = 65535 := by
  have h1 := Ck.fold_mod B
  have h2 := Ck.fold_hi B
  have h3 := Ck.fold_lo B
  apply Ck.fold_full
  · have := ckN_lo p B; omega
  · unfold ckN
    split
    · rename_i h; simp at h; omega
    · omega
theorem Seg.csize {p : Int} {s : ByteArray} {A W T M : List UInt8} (g : Seg p s A W T M) : (cov p s).size = A.length + 2 + T.length := by
  rw [← Oct.len_eq, g.part, List.length_append, List.length_append, g.two]; omega
theorem Seg.chkB {p : Int} {s : ByteArray} {A W T M : List UInt8} (g : Seg p s A W T M) : chkB p s = true := by
  unfold Go.Proofs.Ytmeafeomfblncaa.chkB
  rw [g.has, (set_list g.part g.at_ g.two (c := 0) (by decide) (by decide)).1]; rfl
theorem Seg.total {p src dst : Int} {s : ByteArray} {A W T M : List UInt8} (g : Seg p s A W T M) (hS : U32 src) (hD : U32 dst) (X : List UInt8) (hX : X.length = 2) :
    Ck.wsum (fr p src dst (cov p s).size ++ (A ++ (X ++ T))) = base p src dst A T + Ck.wsum X := by
  obtain ⟨h1, h2, h3⟩ := g.p255
  rw [Ck.wsum_app _ _ (by rw [fr_len]), Ck.wsum_app _ _ h3, Ck.wsum_app _ _ (by rw [hX]), fr_sum ⟨by omega, h2⟩, g.csize]
  unfold base
  omega
theorem Seg.chk0 {p src dst : Int} {s : ByteArray} {A W T M : List UInt8} (g : Seg p s A W T M) (hS : U32 src) (hD : U32 dst) : chk0 p src dst s = 65535 - Ck.fold (base p src dst A T) := by
  obtain ⟨h1, h2, h3⟩ := g.p255
  have e : (zeroed p s).data.toList = A ++ ([0, 0] ++ T) := (set_list g.part g.at_ g.two (c := 0) (by decide) (by decide)).2
  unfold Go.Proofs.Ytmeafeomfblncaa.chk0 Ck.sum
  rw [app_list, frontS_list ⟨by omega, h2⟩ hS hD, e, g.total hS hD [0, 0] rfl]
  have z : Ck.wsum [0, 0] = 0 := rfl
  rw [z, Int.add_zero]
theorem Seg.chkN {p src dst : Int} {s : ByteArray} {A W T M : List UInt8} (g : Seg p s A W T M) (hS : U32 src) (hD : U32 dst) : chkN p src dst s = ckN p (base p src dst A T) := by
  unfold Go.Proofs.Ytmeafeomfblncaa.chkN ckN
  rw [if_pos g.chkB, g.chk0 hS hD]
theorem Seg.fill {p src dst : Int} {s : ByteArray} {A W T M : List UInt8} (g : Seg p s A W T M) (hS : U32 src) (hD : U32 dst) :
    fillB p src dst s = true ∧ (fillS p src dst s).data.toList = A ++ (Oct.be 2 (ckN p (base p src dst A T)).toNat ++ (T ++ M)) := by
  obtain ⟨e1, e2⟩ := fillB_yes (src := src) (dst := dst) g.chkB
  obtain ⟨s1, s2⟩ := set_list g.all g.at_ g.two (ckN_lo p (base p src dst A T)) (ckN_hi p (base p src dst A T))
  rw [e1, e2, g.chkN hS hD]
  exact ⟨s1, s2⟩
theorem Seg.got {p : Int} {s : ByteArray} {A W T M : List UInt8} (g : Seg p s A W T M) : gotB (cov p s) (plc p) 2 = true ∧ got (cov p s) (plc p) 2 = (Oct.num W : Int) := by
  have hz := g.csize
  have ha := g.at_
  refine ⟨(gotB_iff _ _ _).2 ⟨⟨by decide, by decide⟩, by omega, by omega⟩, ?_⟩
  rw [← ha]
  exact got_part (p := A.length) (k := 2) g.part rfl g.two (by decide) (by decide)
theorem Seg.verE {p src dst : Int} {s : ByteArray} {A W T M : List UInt8} (g : Seg p s A W T M) (hS : U32 src) (hD : U32 dst) (h0 : ((p == 17) && ((Oct.num W : Int) == 0)) = false) :
    verE p src dst s = if Ck.fold (base p src dst A T + (Oct.num W : Int)) = 65535 then 0 else 7 := by
  obtain ⟨h1, h2, h3⟩ := g.p255
  obtain ⟨g1, g2⟩ := g.got
  have e := verE_s (src := src) (dst := dst) g.has g1 (by rw [g2]; exact h0)
  rw [e]
  unfold Ck.sum
  rw [app_list, frontS_list ⟨by omega, h2⟩ hS hD, g.part, g.total hS hD W g.two, wsum_num g.two]
theorem Seg.ver0 {src dst : Int} {s : ByteArray} {A W T M : List UInt8} (g : Seg 17 s A W T M) (h0 : Oct.num W = 0) : Go.Proofs.Ytmeafeomfblncaa.verE 17 src dst s = 0 := by
  obtain ⟨g1, g2⟩ := g.got
  exact verE_0 g.has g1 (by rw [g2, h0]; rfl)
theorem num_ck (p B : Int) : (Oct.num (Oct.be 2 (ckN p B).toNat) : Int) = ckN p B := by
  have h0 := ckN_lo p B
  have h1 := ckN_hi p B
  rw [Oct.num_be 2 _ (by show _ < 65536; omega)]; omega
/-- What is filled is verified. -/
theorem Seg.right {p src dst : Int} {t : ByteArray} {A T M : List UInt8} (g : Seg p t A (Oct.be 2 (ckN p (base p src dst A T)).toNat) T M) (hS : U32 src) (hD : U32 dst) : Go.Proofs.Ytmeafeomfblncaa.verE p src dst t = 0 := by
  have hp := g.p255
  cases h : ((p == 17) && ((Oct.num (Oct.be 2 (ckN p (base p src dst A T)).toNat) : Int) == 0)) with
  | true =>
    obtain ⟨g1, g2⟩ := g.got
    exact verE_0 g.has g1 (by rw [g2]; exact h)
  | false =>
    rw [g.verE hS hD h, num_ck, if_pos (ckN_full (base_pos hp.1))]
theorem base_turned (p src dst : Int) (A T : List UInt8) : base p dst src A T = base p src dst A T := by unfold base; omega
/-- What differs by something that is no multiple of 65535 is not verified. -/
theorem Seg.wrong {p src dst : Int} {t : ByteArray} {A W T M : List UInt8} (g : Seg p t A W T M) (hS : U32 src) (hD : U32 dst) (h0 : ((p == 17) && ((Oct.num W : Int) == 0)) = false) {B : Int} (hB : (B + (Oct.num W : Int)) % 65535 = 0)
    (hd : (base p src dst A T - B) % 65535 ≠ 0) : Go.Proofs.Ytmeafeomfblncaa.verE p src dst t = 7 := by
  rw [g.verE hS hD h0, if_neg]
  intro h
  have := Ck.fold_mod (base p src dst A T + (Oct.num W : Int))
  omega
theorem ck_mod {p B : Int} (hB : 0 < B) : (B + ckN p B) % 65535 = 0 := by
  have := Ck.fold_mod (B + ckN p B)
  rw [ckN_full hB] at this
  omega

/-- A segment of TCP, and one of UDP, with something behind. -/
theorem seg_tcp {s : ByteArray} {A W T : List UInt8} (hl : s.data.toList = A ++ (W ++ T)) (hA : A.length = 16) (hW : W.length = 2) : Seg 6 s A W T [] :=
  ⟨by rw [List.append_nil]; exact hl, by rw [cov_no1 (by decide)]; exact hl, by rw [hA]; rfl, hW, by decide⟩
theorem seg_udp {s : ByteArray} {P W D M : List UInt8} {k : Nat} (hl : s.data.toList = (P ++ Oct.be 2 (8 + (k : Int)).toNat) ++ (W ++ (D ++ M))) (hP : P.length = 4) (hW : W.length = 2) (hD : D.length = k) (hk : k ≤ 65527) :
    Seg 17 s (P ++ Oct.be 2 (8 + (k : Int)).toNat) W D M := by
  have hin : inP (8 + (k : Int)) = true := (inP_iff _).2 (by omega)
  have hen := num_two hin
  have hel := Oct.be_length 2 (8 + (k : Int)).toNat
  generalize Oct.be 2 (8 + (k : Int)).toNat = E at *
  have hz : s.size = 8 + (k + M.length) := by rw [← Oct.len_eq, hl]; simp only [List.length_append]; omega
  have hg : Go.Proofs.Ytmeafeomfblncaa.got s 4 2 = 8 + (k : Int) := by
    have hl2 : s.data.toList = P ++ (E ++ (W ++ (D ++ M))) := by rw [hl, List.append_assoc]
    exact (got_part (p := 4) (k := 2) hl2 hP hel (by decide) (by decide)).trans hen
  have hE : measE s = 0 := by unfold measE; rw [if_neg (by omega), hg, if_neg (by omega), if_neg (by omega)]
  have hN : measN s = 8 + (k : Int) := by rw [(meas_yes hE).1, hg]
  have hA : (((P ++ E).length : Nat) : Int) = plc 17 := by rw [List.length_append, hP, hel]; rfl
  refine ⟨hl, ?_, hA, hW, by decide⟩
  rw [cov_yes (by decide) (by rw [hE]; rfl), hN, Oct.ext_list, List.drop_zero, hl]
  have e : (8 + (k : Int)).toNat = ((P ++ E) ++ (W ++ D)).length := by simp only [List.length_append]; omega
  have e2 : (P ++ E) ++ (W ++ (D ++ M)) = ((P ++ E) ++ (W ++ D)) ++ M := by simp only [List.append_assoc]
  rw [e2, e, List.take_left]
/-- A datagram that was built, with something behind. -/
def dgA (a b : Int) (k : Nat) : List UInt8 := (Oct.be 2 a.toNat ++ Oct.be 2 b.toNat) ++ Oct.be 2 (8 + (k : Int)).toNat
theorem dgA_len (a b : Int) (k : Nat) : (dgA a b k).length = 6 := by unfold dgA; simp [Oct.be_length]
theorem seg_built {a b : Int} {body : ByteArray} (ha : inP a = true) (hb : inP b = true) (hs : body.size ≤ 1492) (s : ByteArray) (W D M : List UInt8) (hW : W.length = 2) (hD : D.length = body.size)
    (hl : s.data.toList = dgA a b body.size ++ (W ++ (D ++ M))) : Seg 17 s (dgA a b body.size) W D M :=
  seg_udp hl (by simp [Oct.be_length]) hW hD (by omega)
theorem built_dg {a b : Int} {body : ByteArray} (ha : inP a = true) (hb : inP b = true) (hs : body.size ≤ 1492) : (built a b body).data.toList = dgA a b body.size ++ ([0, 0] ++ body.data.toList) := by
  rw [built_list ha hb hs]
  unfold hdL dgA
  simp only [List.append_assoc]
end Go.Proofs.Ytmeafeomfblncaa
