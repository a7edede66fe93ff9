/- Messages about packets, with other ends (mathematics; nothing of the program). -/
import Derived.Test.YtpjaajeojiaeiaaGreatDoorPpC
import Derived.Test.YtpjaajeojiaeiaaGreatDoorPpRPl
import Derived.Test.YtpjaajeojiaeiaaGreatDoorPkInv
namespace Go.Proofs.YtpjaajeojiaeiaaGreatDoor
open Go.RowKit

/-- A quote, by its parts. -/
structure Quo (Q : ByteArray) (A T : List UInt8) (p : Int) (e : En) (n : Nat) (C R : List UInt8) : Prop where
 all : Q.data.toList = A ++ (T ++ (Oct.be 1 p.toNat ++ (C ++ (Oct.be 4 e.src.toNat ++ (Oct.be 4 e.dst.toNat ++ (Oct.be 2 e.sport.toNat ++ (Oct.be 2 e.dport.toNat ++ R)))))))
 a : A.length = 8
 t : T.length = 1
 c : C.length = 2
 size : Q.size = n
 lo : 28 ≤ n
 hi : n ≤ 1000
 z0 : Oct.num (A.take 1) = 69
 z6 : Oct.num (A.drop 6) % 8192 = 0
 p' : p = 6 ∨ p = 17
 e' : e.Wf
theorem split0 (A X : List UInt8) : A ++ X = [] ++ (A.take 1 ++ (A.drop 1 ++ X)) := by rw [List.nil_append, ← List.append_assoc, List.take_append_drop]
theorem split6 (A X : List UInt8) : A ++ X = A.take 6 ++ (A.drop 6 ++ X) := by rw [← List.append_assoc, List.take_append_drop]
theorem num_be1 {n : Int} (h0 : 0 ≤ n) (h1 : n ≤ 255) : (Oct.num (Oct.be 1 n.toNat) : Int) = n := by rw [Oct.num_be _ _ (by show _ < 256; omega)]; omega
theorem num_be2 {n : Int} (h0 : 0 ≤ n) (h1 : n ≤ 65535) : (Oct.num (Oct.be 2 n.toNat) : Int) = n := by rw [Oct.num_be _ _ (by show _ < 65536; omega)]; omega
theorem num_be4 {n : Int} (h0 : 0 ≤ n) (h1 : n ≤ 4294967295) : (Oct.num (Oct.be 4 n.toNat) : Int) = n := by rw [Oct.num_be _ _ (by show _ < 4294967296; omega)]; omega
theorem Quo.gots {Q : ByteArray} {A T C R : List UInt8} {p : Int} {e : En} {n : Nat} (h : Quo Q A T p e n C R) : got Q 0 1 = 69 ∧ got Q 6 2 % 8192 = 0 ∧ got Q 9 1 = p ∧ got Q 12 4 = e.src ∧ got Q 16 4 = e.dst ∧ got Q 20 2 = e.sport ∧ got Q 22 2 = e.dport := by
 have hp : 0 ≤ p ∧ p ≤ 255 := by rcases h.p' with h | h <;> omega
 have w := h.e'
 have hall := h.all
 have hA := h.a
 have l1 : (A.take 1).length = 1 := by rw [List.length_take]; omega
 have l2 : (A.take 6).length = 6 := by rw [List.length_take]; omega
 have l3 : (A.drop 6).length = 2 := by rw [List.length_drop]; omega
 refine ⟨?_, ?_, ?_, ?_, ?_, ?_, ?_⟩
 ·have h1 : got Q 0 1 = Oct.num (A.take 1) := Ps.got_part (p := 0) (k := 1) (hall.trans (split0 _ _)) rfl l1 (by decide) (by decide)
  rw [h1, h.z0]; rfl
 ·have h1 : got Q 6 2 = Oct.num (A.drop 6) := Ps.got_part (p := 6) (k := 2) (hall.trans (split6 _ _)) l2 l3 (by decide) (by decide)
  rw [h1]
  have := h.z6
  omega
 ·rw [← num_be1 hp.1 hp.2]
  exact Ps.got_part (A := A ++ T) (C := C ++ (Oct.be 4 e.src.toNat ++ (Oct.be 4 e.dst.toNat ++ (Oct.be 2 e.sport.toNat ++ (Oct.be 2 e.dport.toNat ++ R))))) (p := 9) (k := 1) (by rw [hall]; simp only [List.append_assoc]) (by rw [List.length_append, h.a, h.t]) (Oct.be_length _ _) (by decide) (by decide)
 ·rw [← num_be4 w.src.1 w.src.2]
  exact Ps.got_part (A := A ++ (T ++ (Oct.be 1 p.toNat ++ C))) (C := Oct.be 4 e.dst.toNat ++ (Oct.be 2 e.sport.toNat ++ (Oct.be 2 e.dport.toNat ++ R))) (p := 12) (k := 4) (by rw [hall]; simp only [List.append_assoc]) (by simp only [List.length_append, h.a, h.t, h.c, Oct.be_length]) (Oct.be_length _ _) (by decide) (by decide)
 ·rw [← num_be4 w.dst.1 w.dst.2]
  exact Ps.got_part (A := A ++ (T ++ (Oct.be 1 p.toNat ++ (C ++ Oct.be 4 e.src.toNat)))) (C := Oct.be 2 e.sport.toNat ++ (Oct.be 2 e.dport.toNat ++ R)) (p := 16) (k := 4) (by rw [hall]; simp only [List.append_assoc]) (by simp only [List.length_append, h.a, h.t, h.c, Oct.be_length]) (Oct.be_length _ _) (by decide) (by decide)
 ·rw [← num_be2 w.sport.1 w.sport.2]
  exact Ps.got_part (A := A ++ (T ++ (Oct.be 1 p.toNat ++ (C ++ (Oct.be 4 e.src.toNat ++ Oct.be 4 e.dst.toNat))))) (C := Oct.be 2 e.dport.toNat ++ R) (p := 20) (k := 2) (by rw [hall]; simp only [List.append_assoc]) (by simp only [List.length_append, h.a, h.t, h.c, Oct.be_length]) (Oct.be_length _ _) (by decide) (by decide)
 ·rw [← num_be2 w.dport.1 w.dport.2]
  exact Ps.got_part (A := A ++ (T ++ (Oct.be 1 p.toNat ++ (C ++ (Oct.be 4 e.src.toNat ++ (Oct.be 4 e.dst.toNat ++ Oct.be 2 e.sport.toNat)))))) (C := R) (p := 22) (k := 2) (by rw [hall]; simp only [List.append_assoc]) (by simp only [List.length_append, h.a, h.t, h.c, Oct.be_length]) (Oct.be_length _ _) (by decide) (by decide)
abbrev En.tup (e : En) (p : Int) : Tp := ⟨p, e.src, e.dst, e.sport, e.dport⟩
theorem onA_rng (was : Tp) (t : En) (c : Int) : 0 ≤ onA was t c ∧ onA was t c ≤ 65535 := adrF_rng _ _ _
theorem onP_rng (was : Tp) (t : En) (c : Int) : 0 ≤ onP was t c ∧ onP was t c ≤ 65535 := prtF_rng _ _ _
theorem onE_rng (was : Tp) (t : En) (c : Int) (h0 : 0 ≤ c) (h1 : c ≤ 65535) : 0 ≤ onE was t c ∧ onE was t c ≤ 65535 := by
 unfold onE
 split
 ·exact udpF_rng (fun c _ _ => onP_rng was t c) c h0 h1
 ·exact onP_rng was t c
/-- The quote, turned. -/
theorem Quo.turn {Q : ByteArray} {A T C R : List UInt8} {p : Int} {e : En} {n : Nat} (h : Quo Q A T p e n C R) {t : En} (w : t.Wf) : ∃ C' R', Quo (quoS Q 20 (e.tup p) t) A T p t n C' R' ∧ R'.length = R.length := by
 have hlo := h.lo
 have hsz := h.size
 have zh : (Q.extract 0 (20 : Int).toNat).size = 20 := by show (Q.extract 0 20).size = 20; rw [ByteArray.size_extract]; omega
 have hl20 : (A ++ (T ++ (Oct.be 1 p.toNat ++ (C ++ (Oct.be 4 e.src.toNat ++ Oct.be 4 e.dst.toNat))))).length = 20 := by simp only [List.length_append, h.a, h.t, h.c, Oct.be_length]
 have eall : Q.data.toList = (A ++ (T ++ (Oct.be 1 p.toNat ++ (C ++ (Oct.be 4 e.src.toNat ++ Oct.be 4 e.dst.toNat))))) ++ (Oct.be 2 e.sport.toNat ++ (Oct.be 2 e.dport.toNat ++ R)) := by rw [h.all]; simp only [List.append_assoc]
 have lh : (Q.extract 0 (20 : Int).toNat).data.toList = A ++ (T ++ (Oct.be 1 p.toNat ++ (C ++ (Oct.be 4 e.src.toNat ++ Oct.be 4 e.dst.toNat)))) := by
  show (Q.extract 0 20).data.toList = _
  rw [Oct.ext_list, List.drop_zero, eall]; exact Ip.take_len hl20
 have lr : (Q.extract (20 : Int).toNat Q.size).data.toList = Oct.be 2 e.sport.toNat ++ (Oct.be 2 e.dport.toNat ++ R) := by
  show (Q.extract 20 Q.size).data.toList = _
  rw [Oct.ext_list, List.take_of_length_le (by rw [Oct.len_eq]; exact Nat.le_refl _), eall]; exact Ip.drop_len hl20
 have v : H20 (Q.extract 0 (20 : Int).toNat).data.toList A T (Oct.be 1 p.toNat) C (Oct.be 4 e.src.toNat) (Oct.be 4 e.dst.toNat) [] := ⟨by rw [lh, List.append_nil], h.a, h.t, Oct.be_length _ _, h.c, Oct.be_length _ _, Oct.be_length _ _⟩
 -- the header
 have la := addrS_list (by omega) w.src w.dst (s := Q.extract 0 (20 : Int).toNat)
 have za := addrS_size (by omega) w.src w.dst (s := Q.extract 0 (20 : Int).toNat)
 have va := v.addr t.src.toNat t.dst.toNat
 rw [← la] at va
 obtain ⟨C', hC', hA⟩ : ∃ C', C'.length = 2 ∧ (quoA Q 20 (e.tup p) t).data.toList = A ++ (T ++ (Oct.be 1 p.toNat ++ (C' ++ (Oct.be 4 t.src.toNat ++ (Oct.be 4 t.dst.toNat ++ []))))) := by
  unfold quoA goOnS
  generalize addrS (Q.extract 0 (20 : Int).toNat) t.src t.dst = X at *
  rw [if_pos ((gotB_iff _ _ _).2 ⟨⟨by decide, by decide⟩, by decide, by omega⟩)]
  have hr := onA_rng (e.tup p) t (got X 10 2)
  generalize onA (e.tup p) t (got X 10 2) = c at *
  have hs : (set X 10 2 c).data.toList = Oct.put X.data.toList 10 2 c.toNat := set_list 10 2 (by decide) (by omega) hr.1 (lt2 hr.2 hr.1)
  exact ⟨Oct.be 2 c.toNat, Oct.be_length _ _, by rw [hs]; exact (va.check c.toNat).all⟩
 -- what stands behind
 have zr : (Q.extract (20 : Int).toNat Q.size).size = n - 20 := by show (Q.extract 20 Q.size).size = _; rw [ByteArray.size_extract]; omega
 have lp := portS_list (s := Q.extract (20 : Int).toNat Q.size) (by omega) w.sport w.dport
 have zp := portS_size (s := Q.extract (20 : Int).toNat Q.size) (by omega) w.sport w.dport
 rw [portL_eq (by rw [Oct.len_eq]; omega), lr, drop_two] at lp
 have hRl : 4 + R.length = n - 20 := by have := congrArg List.length lr; rw [Oct.len_eq] at this; simp only [List.length_append, Oct.be_length] at this; omega
 obtain ⟨R', hR', hB⟩ : ∃ R', R'.length = R.length ∧ (quoB Q 20 (e.tup p) t).data.toList = Oct.be 2 t.sport.toNat ++ (Oct.be 2 t.dport.toNat ++ R') := by
  unfold quoB goOnS
  generalize portS (Q.extract (20 : Int).toNat Q.size) t.sport t.dport = X at *
  by_cases hg : gotB X (Ps.plc (e.tup p).proto) 2 = true
  ·rw [if_pos hg]
   obtain ⟨-, g0, g1⟩ := (gotB_iff _ _ _).1 hg
   obtain ⟨k, hk, hk4⟩ : ∃ k : Nat, Ps.plc (e.tup p).proto = (k : Int) ∧ 4 ≤ k := by
    rcases h.p' with hp | hp
    ·exact ⟨16, by show Ps.plc p = _; rw [hp]; rfl, by decide⟩
    ·exact ⟨6, by show Ps.plc p = _; rw [hp]; rfl, by decide⟩
   have g2 := got2_rng X (Ps.plc (e.tup p).proto)
   have hr := onE_rng (e.tup p) t (got X (Ps.plc (e.tup p).proto) 2) g2.1 g2.2
   generalize onE (e.tup p) t (got X (Ps.plc (e.tup p).proto) 2) = c at *
   rw [hk] at g0 g1 ⊢
   have hs : (set X (k : Int) 2 c).data.toList = Oct.put X.data.toList k 2 c.toNat := set_list k 2 (by decide) (by omega) hr.1 (lt2 hr.2 hr.1)
   have hX := Oct.len_eq X
   refine ⟨Oct.put R (k - 4) 2 c.toNat, Oct.put_length _ _ _ _ (by omega), ?_⟩
   rw [hs, lp, put_snd _ _ (k - 2) k 2 _ (by rw [Oct.be_length]; omega), put_snd _ _ (k - 4) (k - 2) 2 _ (by rw [Oct.be_length]; omega)]
  ·rw [if_neg hg]
   exact ⟨R, rfl, lp⟩
 have hl : (quoS Q 20 (e.tup p) t).data.toList = A ++ (T ++ (Oct.be 1 p.toNat ++ (C' ++ (Oct.be 4 t.src.toNat ++ (Oct.be 4 t.dst.toNat ++ (Oct.be 2 t.sport.toNat ++ (Oct.be 2 t.dport.toNat ++ R'))))))) := by
  unfold quoS
  rw [Ip.app_list, hA, hB]
  simp only [List.append_assoc, List.append_nil]
 refine ⟨C', R', ⟨hl, h.a, h.t, hC', ?_, h.lo, h.hi, h.z0, h.z6, h.p', w⟩, hR'⟩
 rw [← Oct.len_eq, hl]
 simp only [List.length_append, h.a, h.t, hC', Oct.be_length]
 omega
abbrev Mk.ends (m : Mk) : En := ⟨m.src, m.dst, m.sport, m.dport⟩
end Go.Proofs.YtpjaajeojiaeiaaGreatDoor

/- What About of the reference of chapter 10 makes is what the program makes (mathematics; nothing of the program). -/
namespace Go.Proofs.YtpjaajeojiaeiaaGreatDoor
open Go.RowKit

theorem set_list' {s : ByteArray} {pos : Int} (p k : Nat) {n : Int} (hpos : pos = p) (hk : 1 ≤ k ∧ k ≤ 4) (hp : p + k ≤ s.size) (h0 : 0 ≤ n) (h1 : n.toNat < 256 ^ k) : (set s pos k n).data.toList = Oct.put s.data.toList p k n.toNat := by
 subst hpos
 exact set_list p k hk hp h0 h1
theorem set_sz' {s : ByteArray} {pos : Int} (p k : Nat) {n : Int} (hpos : pos = p) (hk : 1 ≤ k ∧ k ≤ 4) (hp : p + k ≤ s.size) (h0 : 0 ≤ n) (h1 : n.toNat < 256 ^ k) : (set s pos k n).size = s.size := by
 subst hpos
 exact set_size' p k hk hp h0 h1
/-- The steps of the reference. -/
def ra2 (X : ByteArray) (q : Int) (was : Tp) (t : En) : ByteArray := set X (q + 10) 2 (onA was t (got X (q + 10) 2))
def ra3 (X : ByteArray) (q : Int) (t : En) : ByteArray := set (set X (q + 12) 4 t.src) (q + 16) 4 t.dst
def ra4 (X : ByteArray) (p : Int) (was : Tp) (t : En) : ByteArray := goOnS X p (onE was t)
def ra5 (X : ByteArray) (i : Int) (t : En) : ByteArray := set (set X i 2 t.sport) (i + 2) 2 t.dport
def ra6 (X : ByteArray) (p : Int) : ByteArray := set X (p + 2) 2 0
def ra7 (X : ByteArray) (p : Int) : ByteArray := set X (p + 2) 2 (65535 - Ck.sum (X.extract p.toNat X.size).data.toList)
/-- A text in four parts: a header, eight bytes, the quote's header, what stands behind. -/
structure Four (X : ByteArray) (HD I QH QR : List UInt8) (P Z : Nat) : Prop where
 all : X.data.toList = HD ++ (I ++ (QH ++ QR))
 hd : HD.length = P
 i : I.length = 8
 z : QH.length = Z
theorem Four.size {X : ByteArray} {HD I QH QR : List UInt8} {P Z : Nat} (f : Four X HD I QH QR P Z) : X.size = P + 8 + Z + QR.length := by
 rw [← Oct.len_eq, f.all]; simp only [List.length_append, f.hd, f.i, f.z]; omega
theorem Four.putH {X : ByteArray} {HD I QH QR : List UInt8} {P Z : Nat} (f : Four X HD I QH QR P Z) (a k n : Nat) (h : a + k ≤ Z) : Oct.put X.data.toList (P + 8 + a) k n = HD ++ (I ++ (Oct.put QH a k n ++ QR)) := by
 rw [f.all, put_snd HD _ (8 + a) (P + 8 + a) k n (by rw [f.hd]; omega), put_snd I _ a (8 + a) k n (by rw [f.i]), put_fst QH QR a k n (by rw [f.z]; exact h)]
theorem Four.putR {X : ByteArray} {HD I QH QR : List UInt8} {P Z : Nat} (f : Four X HD I QH QR P Z) (a k n : Nat) : Oct.put X.data.toList (P + 8 + Z + a) k n = HD ++ (I ++ (QH ++ Oct.put QR a k n)) := by
 rw [f.all, put_snd HD _ (8 + Z + a) (P + 8 + Z + a) k n (by rw [f.hd]; omega), put_snd I _ (Z + a) (8 + Z + a) k n (by rw [f.i]; omega), put_snd QH _ a (Z + a) k n (by rw [f.z])]
theorem Four.putI {X : ByteArray} {HD I QH QR : List UInt8} {P Z : Nat} (f : Four X HD I QH QR P Z) (a k n : Nat) (h : a + k ≤ 8) : Oct.put X.data.toList (P + a) k n = HD ++ (Oct.put I a k n ++ (QH ++ QR)) := by
 rw [f.all, put_snd HD _ a (P + a) k n (by rw [f.hd]), put_fst I _ a k n (by rw [f.i]; exact h)]
theorem Four.gotH {X : ByteArray} {HD I QH QR : List UInt8} {P Z : Nat} (f : Four X HD I QH QR P Z) {pos : Int} (a k : Nat) (hpos : pos = ((P + 8 + a : Nat) : Int)) (hk : 1 ≤ k ∧ k ≤ 4) (h : a + k ≤ Z) : got X pos k = Oct.num ((QH.drop a).take k) := by
 subst hpos
 have hz := f.size
 rw [Ic.got_of hk (by omega), f.all]
 congr 2
 rw [List.drop_append, List.drop_of_length_le (by rw [f.hd]; omega), List.nil_append, f.hd, List.drop_append, List.drop_of_length_le (by rw [f.i]; omega), List.nil_append, f.i, List.drop_append_of_le_length (by rw [f.z]; omega), List.take_append_of_le_length (by rw [List.length_drop, f.z]; omega)]
 congr 2
 omega
theorem Four.gotR {X : ByteArray} {HD I QH QR : List UInt8} {P Z : Nat} (f : Four X HD I QH QR P Z) {pos : Int} (a k : Nat) (hpos : pos = ((P + 8 + Z + a : Nat) : Int)) (hk : 1 ≤ k ∧ k ≤ 4) : gotB X pos k = decide (a + k ≤ QR.length) ∧ (a + k ≤ QR.length → got X pos k = Oct.num ((QR.drop a).take k)) := by
 subst hpos
 have hz := f.size
 constructor
 ·rw [Bool.eq_iff_iff, gotB_iff, decide_eq_true_iff]
  unfold Fits
  constructor
  ·rintro ⟨-, -, h⟩; omega
  ·intro h; exact ⟨⟨by omega, by omega⟩, by omega, by omega⟩
 ·intro h
  rw [Ic.got_of hk (by omega), f.all]
  congr 2
  rw [List.drop_append, List.drop_of_length_le (by rw [f.hd]; omega), List.nil_append, f.hd, List.drop_append, List.drop_of_length_le (by rw [f.i]; omega), List.nil_append, f.i, List.drop_append, List.drop_of_length_le (by rw [f.z]; omega), List.nil_append, f.z]
  congr 2
  omega
/-- The quote's header, as the reference makes it. -/
theorem Four.head {X : ByteArray} {HD I QH QR : List UInt8} {P Z : Nat} (f : Four X HD I QH QR P Z) (hZ : 20 ≤ Z) {q : Int} (hq : q = ((P + 8 : Nat) : Int)) (was : Tp) {t : En} (w : t.Wf) :
  ∃ QH', Four (ra3 (ra2 X q was t) q t) HD I QH' QR P Z ∧ ∀ H : ByteArray, H.data.toList = QH → (goOnS (addrS H t.src t.dst) 10 (onA was t)).data.toList = QH' := by
 have v := h20_of QH (by rw [f.z]; exact hZ)
 have hz := f.size
 have hg : got X (q + 10) 2 = Oct.num ((QH.drop 10).take 2) := f.gotH 10 2 (by omega) (by decide) (by omega)
 have hr := onA_rng was t (got X (q + 10) 2)
 have e2 : (ra2 X q was t).data.toList = HD ++ (I ++ (Oct.put QH 10 2 (onA was t (got X (q + 10) 2)).toNat ++ QR)) := by
  unfold ra2
  refine (set_list' (P + 8 + 10) 2 (by omega) (by decide) (by omega) hr.1 (lt2 hr.2 hr.1)).trans ?_
  rw [f.putH 10 2 _ (by omega)]
 rw [hg] at hr e2
 obtain ⟨c, hc⟩ : ∃ c : Int, onA was t (Oct.num ((QH.drop 10).take 2) : Int) = c := ⟨_, rfl⟩
 rw [hc] at hr e2
 have v2 := v.check c.toNat
 have f2 : Four (ra2 X q was t) HD I (Oct.put QH 10 2 c.toNat) QR P Z := ⟨e2, f.hd, f.i, by rw [v2.size, ← v.size]; exact f.z⟩
 have z2 := f2.size
 have e3 : (set (ra2 X q was t) (q + 12) 4 t.src).data.toList = HD ++ (I ++ (Oct.put (Oct.put QH 10 2 c.toNat) 12 4 t.src.toNat ++ QR)) := by
  refine (set_list' (P + 8 + 12) 4 (by omega) (by decide) (by omega) w.src.1 (lt4 w.src.2 w.src.1)).trans ?_
  rw [f2.putH 12 4 _ (by omega)]
 have v3 := v2.src t.src.toNat
 have f3 : Four (set (ra2 X q was t) (q + 12) 4 t.src) HD I (Oct.put (Oct.put QH 10 2 c.toNat) 12 4 t.src.toNat) QR P Z := ⟨e3, f.hd, f.i, by rw [v3.size, ← v.size]; exact f.z⟩
 have z3 := f3.size
 have e4 : (ra3 (ra2 X q was t) q t).data.toList = HD ++ (I ++ (Oct.put (Oct.put (Oct.put QH 10 2 c.toNat) 12 4 t.src.toNat) 16 4 t.dst.toNat ++ QR)) := by
  unfold ra3
  refine (set_list' (P + 8 + 16) 4 (by omega) (by decide) (by omega) w.dst.1 (lt4 w.dst.2 w.dst.1)).trans ?_
  rw [f3.putH 16 4 _ (by omega)]
 have v4 := v3.dst t.dst.toNat
 refine ⟨_, ⟨e4, f.hd, f.i, by rw [v4.size, ← v.size]; exact f.z⟩, fun H hH => ?_⟩
 have zH : H.size = Z := by rw [← Oct.len_eq, hH]; exact f.z
 have la := addrS_list (s := H) (by omega) w.src w.dst
 have za := addrS_size (s := H) (by omega) w.src w.dst
 rw [hH] at la
 have va := v.addr t.src.toNat t.dst.toNat
 rw [← la] at va
 unfold goOnS
 rw [if_pos ((gotB_iff _ _ _).2 ⟨⟨by decide, by decide⟩, by decide, by omega⟩)]
 have hg2 : got (addrS H t.src t.dst) 10 2 = Oct.num ((QH.drop 10).take 2) := by
  have e : got (addrS H t.src t.dst) 10 2 = Oct.num ((QH.drop 10).take 2) := Ps.got_part (A := QH.take 8 ++ ((QH.drop 8).take 1 ++ (QH.drop 9).take 1)) (B := (QH.drop 10).take 2) (C := Oct.be 4 t.src.toNat ++ (Oct.be 4 t.dst.toNat ++ QH.drop 20)) (p := 10) (k := 2) (va.all.trans (by simp only [List.append_assoc])) (by simp only [List.length_append, va.a, va.t, va.p]) va.c (by decide) (by decide)
  exact e
 rw [hg2, hc]
 have hs : (set (addrS H t.src t.dst) 10 2 c).data.toList = Oct.put (addrS H t.src t.dst).data.toList 10 2 c.toNat := set_list 10 2 (by decide) (by omega) hr.1 (lt2 hr.2 hr.1)
 rw [hs, (va.check c.toNat).all, v4.all]
theorem portL_put {l : List UInt8} (h : 4 ≤ l.length) (a b p k n : Nat) (hp : 4 ≤ p) (hl : p + k ≤ l.length) : Oct.put (portL l a b) p k n = portL (Oct.put l p k n) a b := by
 have e : l = l.take 4 ++ l.drop 4 := (List.take_append_drop 4 l).symm
 have l4 : (l.take 4).length = 4 := by rw [List.length_take]; omega
 have e2 : Oct.put l p k n = l.take 4 ++ Oct.put (l.drop 4) (p - 4) k n := by
  have := put_snd (l.take 4) (l.drop 4) (p - 4) p k n (by omega)
  rw [← e] at this; exact this
 rw [portL_eq h, portL_eq (by rw [Oct.put_length _ _ _ _ hl]; exact h), e2]
 rw [Ip.drop_len l4]
 rw [put_snd _ _ (p - 2) p k n (by rw [Oct.be_length]; omega), put_snd _ _ (p - 4) (p - 2) k n (by rw [Oct.be_length]; omega)]
theorem portL_len {l : List UInt8} (h : 4 ≤ l.length) (a b : Nat) : (portL l a b).length = l.length := by
 rw [portL_eq h]; simp only [List.length_append, Oct.be_length, List.length_drop]; omega
theorem portL_drop {l : List UInt8} (h : 4 ≤ l.length) (a b p k : Nat) (hp : 4 ≤ p) : ((portL l a b).drop p).take k = (l.drop p).take k := by
 rw [portL_eq h, List.drop_append, List.drop_of_length_le (by rw [Oct.be_length]; omega), List.nil_append, Oct.be_length, List.drop_append, List.drop_of_length_le (by rw [Oct.be_length]; omega), List.nil_append, Oct.be_length, List.drop_drop]
 congr 2
 omega
/-- What stands behind the quote's header, as the reference makes it. -/
theorem Four.rest {X : ByteArray} {HD I QH QR : List UInt8} {P Z : Nat} (f : Four X HD I QH QR P Z) (hN : 8 ≤ QR.length) {i : Int} (hi : i = ((P + 8 + Z : Nat) : Int)) (was : Tp) (hp : was.proto = 6 ∨ was.proto = 17) {t : En} (w : t.Wf) :
  ∃ QR', Four (ra5 (ra4 X (i + Ps.plc was.proto) was t) i t) HD I QH QR' P Z ∧ QR'.length = QR.length ∧ ∀ R : ByteArray, R.data.toList = QR → (goOnS (portS R t.sport t.dport) (Ps.plc was.proto) (onE was t)).data.toList = QR' := by
 obtain ⟨k, hk, hk4⟩ : ∃ k : Nat, Ps.plc was.proto = (k : Int) ∧ 4 ≤ k := by
  rcases hp with hp | hp
  ·exact ⟨16, by rw [hp]; rfl, by decide⟩
  ·exact ⟨6, by rw [hp]; rfl, by decide⟩
 rw [hk]
 have hz := f.size
 obtain ⟨gB, gV⟩ := f.gotR (pos := i + (k : Int)) k 2 (by omega) (by decide)
 replace gB : gotB X (i + (k : Int)) 2 = decide (k + 2 ≤ QR.length) := gB
 replace gV : k + 2 ≤ QR.length → got X (i + (k : Int)) 2 = Oct.num ((QR.drop k).take 2) := gV
 -- the reference
 obtain ⟨Q4, f4, l4, h4⟩ : ∃ Q4, Four (ra4 X (i + k) was t) HD I QH Q4 P Z ∧ Q4.length = QR.length ∧ ((k + 2 ≤ QR.length ∧ Q4 = Oct.put QR k 2 (onE was t (Oct.num ((QR.drop k).take 2))).toNat) ∨ (¬ k + 2 ≤ QR.length ∧ Q4 = QR)) := by
  unfold ra4 goOnS
  by_cases h : k + 2 ≤ QR.length
  ·rw [if_pos (by rw [gB]; simpa using h), gV h]
   have g2 := got2_rng X (i + k)
   rw [gV h] at g2
   have hr := onE_rng was t _ g2.1 g2.2
   refine ⟨_, ⟨?_, f.hd, f.i, f.z⟩, ?_, .inl ⟨h, rfl⟩⟩
   ·refine (set_list' (P + 8 + Z + k) 2 (by omega) (by decide) (by omega) hr.1 (lt2 hr.2 hr.1)).trans ?_
    rw [f.putR k 2]
   ·exact Oct.put_length _ _ _ _ h
  ·rw [if_neg (by rw [gB]; simpa using h)]
   exact ⟨QR, f, rfl, .inr ⟨h, rfl⟩⟩
 have z4 := f4.size
 have e5 : (set (ra4 X (i + k) was t) i 2 t.sport).data.toList = HD ++ (I ++ (QH ++ Oct.put Q4 0 2 t.sport.toNat)) := by
  refine (set_list' (P + 8 + Z + 0) 2 (by omega) (by decide) (by omega) w.sport.1 (lt2 w.sport.2 w.sport.1)).trans ?_
  rw [f4.putR 0 2]
 have f5 : Four (set (ra4 X (i + k) was t) i 2 t.sport) HD I QH (Oct.put Q4 0 2 t.sport.toNat) P Z := ⟨e5, f.hd, f.i, f.z⟩
 have z5 := f5.size
 have y5 : (Oct.put Q4 0 2 t.sport.toNat).length = Q4.length := Oct.put_length _ _ _ _ (by omega)
 have e6 : (ra5 (ra4 X (i + k) was t) i t).data.toList = HD ++ (I ++ (QH ++ portL Q4 t.sport.toNat t.dport.toNat)) := by
  unfold ra5
  refine (set_list' (P + 8 + Z + 2) 2 (by omega) (by decide) (by omega) w.dport.1 (lt2 w.dport.2 w.dport.1)).trans ?_
  rw [f5.putR 2 2]
  rfl
 refine ⟨_, ⟨e6, f.hd, f.i, f.z⟩, by rw [portL_len (by omega), l4], fun R hR => ?_⟩
 have zR : R.size = QR.length := by rw [← Oct.len_eq, hR]
 have lp := portS_list (s := R) (by omega) w.sport w.dport
 have zp := portS_size (s := R) (by omega) w.sport w.dport
 rw [hR] at lp
 unfold goOnS
 rcases h4 with ⟨h, hQ⟩ | ⟨h, hQ⟩
 ·have hg : got (portS R t.sport t.dport) k 2 = Oct.num ((QR.drop k).take 2) := by
   refine (Ic.got_of (p := k) (k := 2) (by decide) (by omega)).trans ?_
   rw [lp, portL_drop (by omega) _ _ _ _ hk4]
  rw [if_pos ((gotB_iff _ _ _).2 ⟨⟨by decide, by decide⟩, by omega, by omega⟩), hg]
  have g2 := got2_rng (portS R t.sport t.dport) k
  rw [hg] at g2
  have hr := onE_rng was t _ g2.1 g2.2
  refine (set_list' k 2 rfl (by decide) (by omega) hr.1 (lt2 hr.2 hr.1)).trans ?_
  rw [lp, portL_put (by omega) _ _ _ _ _ hk4 h, hQ]
 ·rw [if_neg (fun e => by have := ((gotB_iff _ _ _).1 e).2.2; omega), lp, hQ]
theorem onE_zero {was : Tp} (t : En) (h : was.proto = 17) : onE was t 0 = 0 := by
 unfold onE udpF
 rw [if_pos h, if_pos rfl]
theorem set_same {s : ByteArray} {p : Int} (h : gotB s p 2 = true) : set s p 2 (got s p 2) = s := by
 obtain ⟨-, h0, h1⟩ := (gotB_iff _ _ _).1 h
 obtain ⟨k, hk⟩ : ∃ k : Nat, p = k := ⟨p.toNat, by omega⟩
 subst hk
 have g := got2_rng s k
 have hg : got s k 2 = Oct.num ((s.data.toList.drop k).take 2) := Ic.got_of (p := k) (k := 2) (by decide) (by omega)
 have hl := Oct.len_eq s
 apply Oct.ba_ext
 refine (set_list k 2 (by decide) (by omega) g.1 (lt2 g.2 g.1)).trans ?_
 rw [hg, Int.toNat_natCast]
 have lt : ((s.data.toList.drop k).take 2).length = 2 := by rw [List.length_take, List.length_drop]; omega
 unfold Oct.put
 rw [Oct.be_num 2 _ lt, List.append_assoc, ← take_step s.data.toList k 2, List.take_append_drop]
/-- The message, as the reference makes it. -/
def raS (s : ByteArray) (src dst : Int) (t : En) : ByteArray :=
 ra7 (ra6 (ra5 (ra4 (ra3 (ra2 (routS (s.extract 0 (clsP s).total.toNat) (clsP s).pos src dst) (clsP s).quote (clsP s).tup t) (clsP s).quote t) ((clsP s).inner + Ps.plc (clsP s).tup.proto) (clsP s).tup t) (clsP s).inner t) (clsP s).pos) (clsP s).pos
theorem be1_got {m : ByteArray} {pos : Int} (p k : Nat) (hpos : pos = p) (hk : 1 ≤ k ∧ k ≤ 4) (h : p + k ≤ m.size) : Oct.be k (got m pos k).toNat = (m.data.toList.drop p).take k := by
 subst hpos
 have hl := Oct.len_eq m
 rw [Ic.got_of hk h, Int.toNat_natCast]
 exact Oct.be_num k _ (by rw [List.length_take, List.length_drop]; omega)
theorem parse_pos {m : ByteArray} (h : Ic.parseE m = 0) : 8 ≤ m.size ∧ Ic.parseH m = Ic.pH m := by
 refine ⟨?_, Ic.parseH_of h⟩
 unfold Ic.parseE at h
 by_cases h8 : m.size < 8
 ·rw [if_pos h8] at h; exact absurd h (by decide)
 ·omega
theorem ra_eq {s : ByteArray} (told : Told s) (hk : (clsP s).kind = 2) (hl : 2 ≤ (clsP s).ttl) {src dst : Int} (hs : Ps.U32 src) (hd : Ps.U32 dst) {t : En} (w : t.Wf) : raS s src dst t = abtA s src dst ++ abtB s t := by
 obtain ⟨p0, p1, p2, p3, p4, p5⟩ := told.at_
 obtain ⟨h1, h2⟩ := rhead_eq told hl hs hd
 obtain ⟨a1, a2, a3, a4, a5⟩ := told.about hk
 have hbody : s.extract (clsP s).pos.toNat (clsP s).total.toNat = Ip.parseS s := by rw [told.body, told.pos, told.total]
 have zm : (Ip.parseS s).size = (clsP s).total.toNat - (clsP s).pos.toNat := by rw [← hbody, ByteArray.size_extract]; omega
 rw [hbody] at h1
 obtain ⟨z8, hp⟩ := parse_pos a1
 have hB : (Ic.parseH (Ip.parseS s)).body = (Ip.parseS s).extract 8 (Ip.parseS s).size := by rw [hp]; rfl
 have q6 := a2.lo
 have q7 := a2.hi
 have hproto : (clsP s).tup.proto = 6 ∨ (clsP s).tup.proto = 17 := by rw [a3]; exact a2.proto
 unfold raS abtB abtA msgT
 rw [hbody]
 have hm : msgH (Ip.parseS s) (clsP s) t = ⟨got (Ip.parseS s) 0 1, got (Ip.parseS s) 1 1, got (Ip.parseS s) 4 4, quoS (Ic.parseH (Ip.parseS s)).body (qSize (Ic.parseH (Ip.parseS s)).body) (clsP s).tup t⟩ := by
  have e : (clsP s).inner - (clsP s).quote = qSize (Ic.parseH (Ip.parseS s)).body := by omega
  unfold msgH
  rw [e, hp]
  rfl
 rw [hm]
 generalize routS (s.extract 0 (clsP s).total.toNat) (clsP s).pos src dst = X1 at *
 generalize outerS (s.extract 0 (clsP s).pos.toNat) ((clsP s).ttl - 1) src dst = HDs at *
 generalize (clsP s).tup = was at *
 generalize (Ic.parseH (Ip.parseS s)).body = B at *
 generalize Ip.parseS s = m at *
 generalize (clsP s).quote = q at *
 generalize (clsP s).inner = inn at *
 generalize (clsP s).pos = pp at *
 generalize (clsP s).total = tt at *
 obtain ⟨P, hP⟩ : ∃ P : Nat, pp = P := ⟨pp.toNat, by omega⟩
 obtain ⟨Z, hZ⟩ : ∃ Z : Nat, qSize B = Z := ⟨(qSize B).toNat, by omega⟩
 have zB : B.size = m.size - 8 := by rw [hB, ByteArray.size_extract]; omega
 have lB := Oct.len_eq B
 have lm := Oct.len_eq m
 have eB : B.data.toList = m.data.toList.drop 8 := by rw [hB, Oct.ext_list, List.take_of_length_le (by omega)]
 have f : Four X1 HDs.data.toList (m.data.toList.take 8) (B.data.toList.take Z) (B.data.toList.drop Z) P Z := by
  refine ⟨?_, by rw [h2, hP, Int.toNat_natCast], by rw [List.length_take]; omega, by rw [List.length_take]; omega⟩
  rw [h1, List.take_append_drop, eB, List.take_append_drop]
 have hR8 : 8 ≤ (B.data.toList.drop Z).length := by rw [List.length_drop]; omega
 obtain ⟨QH', f3, hH⟩ := f.head (by omega) (q := q) (by omega) was w
 obtain ⟨QR', f5, l5, hR⟩ := f3.rest hR8 (i := inn) (by omega) was hproto w
 have hA := hH (B.extract 0 (qSize B).toNat) (by rw [hZ, Int.toNat_natCast, Oct.ext_list, List.drop_zero])
 have hC := hR (B.extract (qSize B).toNat B.size) (by rw [hZ, Int.toNat_natCast, Oct.ext_list, List.take_of_length_le (by omega)])
 have hQ : (quoS B (qSize B) was t).data.toList = QH' ++ QR' := by
  unfold quoS quoA quoB
  rw [Ip.app_list, hA, hC]
 have zQ : (quoS B (qSize B) was t).size = B.size := by
  have z := f3.z
  have hh := l5
  rw [List.length_drop] at hh
  rw [← Oct.len_eq, hQ, List.length_append, l5, List.length_drop, f3.z]
  omega
 generalize quoS B (qSize B) was t = QS at *
 have z5 := f5.size
 have z0 := f.size
 generalize ra5 (ra4 (ra3 (ra2 X1 q was t) q t) (inn + Ps.plc was.proto) was t) inn t = X5 at *
 -- the program's message
 have g0 := got1_rng m 0
 have g1 := got1_rng m 1
 have g4 := (got_rng m 4).2.2
 have good : Ic.Good ⟨got m 0 1, got m 1 1, got m 4 4, QS⟩ := ⟨g0.1, g0.2, g1.1, g1.2, g4.1, g4.2⟩
 have hb : Ic.buildS ⟨got m 0 1, got m 1 1, got m 4 4, QS⟩ = Ic.built ⟨got m 0 1, got m 1 1, got m 4 4, QS⟩ := Ic.buildS_of (Ic.buildE_of good (by show 8 + (QS.size : Int) ≤ 1500; omega))
 have hI : m.data.toList.take 8 = (m.data.toList.drop 0).take 1 ++ ((m.data.toList.drop 1).take 1 ++ ((m.data.toList.drop 2).take 2 ++ (m.data.toList.drop 4).take 4)) := by
  have e : m.data.toList.take 8 = (m.data.toList.take 8).take 1 ++ (((m.data.toList.take 8).drop 1).take 1 ++ (((m.data.toList.take 8).drop 2).take 2 ++ ((m.data.toList.take 8).drop 4))) := by
   rw [← take_step (m.data.toList.take 8) 2 2, ← take_step (m.data.toList.take 8) 1 1, List.take_append_drop]
  rw [e]
  simp only [List.drop_take, List.take_take, List.drop_zero]
  rfl
 have hh : Ic.headL ⟨got m 0 1, got m 1 1, got m 4 4, QS⟩ = (m.data.toList.drop 0).take 1 ++ (m.data.toList.drop 1).take 1 := by
  unfold Ic.headL
  rw [show Oct.be 1 (Ic.Hd.kind ⟨got m 0 1, got m 1 1, got m 4 4, QS⟩).toNat = Oct.be 1 (got m 0 1).toNat from rfl, show Oct.be 1 (Ic.Hd.code ⟨got m 0 1, got m 1 1, got m 4 4, QS⟩).toNat = Oct.be 1 (got m 1 1).toNat from rfl]
  have e0 : Oct.be 1 (got m 0 1).toNat = (m.data.toList.drop 0).take 1 := be1_got 0 1 rfl (by decide) (by omega)
  have e1 : Oct.be 1 (got m 1 1).toNat = (m.data.toList.drop 1).take 1 := be1_got 1 1 rfl (by decide) (by omega)
  rw [e0, e1]
 have htl : Ic.tailL ⟨got m 0 1, got m 1 1, got m 4 4, QS⟩ = (m.data.toList.drop 4).take 4 ++ (QH' ++ QR') := by
  unfold Ic.tailL
  rw [show Oct.be 4 (Ic.Hd.rest ⟨got m 0 1, got m 1 1, got m 4 4, QS⟩).toNat = Oct.be 4 (got m 4 4).toNat from rfl, show (Ic.Hd.body ⟨got m 0 1, got m 1 1, got m 4 4, QS⟩).data.toList = QS.data.toList from rfl]
  have e4 : Oct.be 4 (got m 4 4).toNat = (m.data.toList.drop 4).take 4 := be1_got 4 4 rfl (by decide) (by omega)
  rw [e4, hQ]
 have l0 : ((m.data.toList.drop 0).take 1 ++ (m.data.toList.drop 1).take 1).length = 2 := by simp only [List.length_append, List.length_take, List.length_drop]; omega
 have l2 : ((m.data.toList.drop 2).take 2).length = 2 := by rw [List.length_take, List.length_drop]; omega
 have hI2 : m.data.toList.take 8 = ((m.data.toList.drop 0).take 1 ++ (m.data.toList.drop 1).take 1) ++ ((m.data.toList.drop 2).take 2 ++ (m.data.toList.drop 4).take 4) := by rw [hI, List.append_assoc]
 -- the reference's
 have e6 : (ra6 X5 pp).data.toList = HDs.data.toList ++ (Oct.put (m.data.toList.take 8) 2 2 0 ++ (QH' ++ QR')) := by
  unfold ra6
  refine (set_list' (P + 2) 2 (by omega) (by decide) (by omega) (Int.le_refl 0) (by decide)).trans ?_
  exact f5.putI 2 2 0 (by decide)
 rw [put_mid _ _ _ _ 2 2 0 hI2 l0 l2] at e6
 have lHD : HDs.data.toList.length = P := by rw [h2, hP, Int.toNat_natCast]
 have ex : ((ra6 X5 pp).extract pp.toNat (ra6 X5 pp).size).data.toList = (((m.data.toList.drop 0).take 1 ++ (m.data.toList.drop 1).take 1) ++ (Oct.be 2 0 ++ (m.data.toList.drop 4).take 4)) ++ (QH' ++ QR') := by
  rw [Oct.ext_list, List.take_of_length_le (by rw [Oct.len_eq]; exact Nat.le_refl _), e6]
  exact Ip.drop_len (by rw [lHD, hP, Int.toNat_natCast])
 have z6 : (ra6 X5 pp).size = X5.size := by unfold ra6; exact set_sz' (P + 2) 2 (by omega) (by decide) (by omega) (Int.le_refl 0) (by decide)
 have hpre : (((m.data.toList.drop 0).take 1 ++ (m.data.toList.drop 1).take 1) ++ (Oct.be 2 0 ++ (m.data.toList.drop 4).take 4)) ++ (QH' ++ QR') = (Ic.pre ⟨got m 0 1, got m 1 1, got m 4 4, QS⟩).data.toList := by
  rw [Ic.pre_list good, hh, htl]
  simp only [List.append_assoc]
  rfl
 have hc : 65535 - Ck.sum ((ra6 X5 pp).extract pp.toNat (ra6 X5 pp).size).data.toList = Ic.chk ⟨got m 0 1, got m 1 1, got m 4 4, QS⟩ := by
  rw [ex, hpre]
  rfl
 have c0 := Ic.chk_lo ⟨got m 0 1, got m 1 1, got m 4 4, QS⟩
 have c1 := Ic.chk_hi ⟨got m 0 1, got m 1 1, got m 4 4, QS⟩
 rw [hb]
 apply Oct.ba_ext
 rw [Ip.app_list, Ic.built_list good, hh, htl]
 unfold ra7
 rw [hc]
 generalize Ic.chk ⟨got m 0 1, got m 1 1, got m 4 4, QS⟩ = K at *
 refine (set_list' (P + 2) 2 (by omega) (by decide) (by omega) c0 (lt2 c1 c0)).trans ?_
 rw [e6, put_snd HDs.data.toList _ 2 (P + 2) 2 _ (by rw [lHD]), put_fst _ _ 2 2 _ (by simp only [List.length_append, List.length_take, List.length_drop, Oct.be_length]; omega)]
 rw [put_mid _ _ _ _ 2 2 _ rfl l0 (Oct.be_length 2 0)]
 simp only [List.append_assoc]
end Go.Proofs.YtpjaajeojiaeiaaGreatDoor

/- A region that draws its order, and at its end turns a slot that it reads: the slot is as it was till then. Nothing of the program is in here. -/
namespace Go.Proofs.YtpjaajeojiaeiaaGreatDoor
open Go.RowKit

theorem dst_of {l : List Oper} {i : Nat} {o : Oper} (ho : l[i]? = some o) : dstAt l.toArray i = o.dst := by
 unfold dstAt
 simp [ho]
theorem wp_region_turn {P : Program} {id : Nat} {l : List Oper} {Q : Exit → Act → World → Prop} {a : Act} {w : World} (hmix : P.follows .mixedOrders = true) (vs : List Value) (m : Nat) (t0 : Tmp) (hd0 : dstAt l.toArray m = some t0) (htidy : Region.tidyB l.toArray a.tmps.size = true)
  (hop : ∀ (i : Nat) (o : Oper) (b : Act) (u : World), l[i]? = some o → Below w.heap.size w.drew u → Slots l a vs o b → (Region.waitsB l m i = true → b.tmps.getD t0 undef = a.tmps.getD t0 undef) →
   Region.wanted o (yielded l.toArray b.tmps) = true ∧ yieldsY P (fun v u' => v = vs.getD i undef ∧ Below u.heap.size u u') ((execOp b.eval o).run P u) ∨ Region.wanted o (yielded l.toArray b.tmps) = false ∧ vs.getD i undef = undef)
  (hend : ∀ u, Below w.heap.size w.drew u → Q .normal (putAll l.toArray vs l.length a) u) : (Code.region id l.toArray true).wp P Q a w := by
 refine wp_region_invx hmix (IsVal vs) (fun come b u => Below w.heap.size w.drew u ∧ (¬ come m → b.tmps.getD t0 undef = a.tmps.getD t0 undef)) htidy ⟨Below.refl _ _, fun _ => rfl⟩ ?_ ?_
 ·intro i o b u come ho hn hC hr hI hold hnew
  have hb : w.heap.size ≤ u.heap.size := hI.1.size
  have keep : ∀ v, ¬ (m = i ∨ come m) → (b.put o.dst v).tmps.getD t0 undef = a.tmps.getD t0 undef := by
   intro v hnm
   have hmi : m ≠ i := fun e => hnm (.inl e)
   have hcm : ¬ come m := fun e => hnm (.inr e)
   have hne : o.dst ≠ some t0 := fun e => hmi (tidy_once htidy (by rw [dst_of ho]; exact e) hd0)
   rw [getD_put_other _ _ _ _ hne]
   exact hI.2 hcm
  rcases hop i o b u ho hI.1 ⟨fun t ht => hold t (base_of ht), fun j t h1 h2 => hnew j t (hr j h1) h2⟩ (fun hw => hI.2 (not_yet hC hw hn)) with ⟨h1, h2⟩ | ⟨h1, h2⟩
  ·refine .inl ⟨h1, ?_⟩
   revert h2
   generalize (execOp b.eval o).run P u = r
   intro h2
   cases r with
   | ok n u' =>
    cases n <;> simp only [yieldsY] at h2 ⊢
    ·exact ⟨⟨hI.1.trans (h2.2.mono hb), keep _⟩, h2.1, fun _ _ _ h => h⟩
    all_goals first
     | exact ⟨⟨hI.1.trans (h2.2.mono hb), keep _⟩, h2.1, fun _ _ _ h => h⟩
     | exact h2.mono fun e u'' ⟨v, he, h3, h4⟩ => ⟨v, he, ⟨hI.1.trans (h4.mono hb), keep _⟩, h3, fun _ _ _ h => h⟩
   | halt x u' => exact h2
  ·exact .inr ⟨h1, ⟨hI.1, keep _⟩, h2.symm⟩
 ·intro xs u hlen hI hF
  have hm : Met l.toArray (IsVal vs) a (fun i => i < l.length) (putAll l.toArray vs l.length a) u := by
   have := putAll_met (vs := vs) (a := a) u htidy l.length (by simp)
   simpa using this
  have hm2 : Met l.toArray (IsVal vs) a (fun i => i < l.length) (putAll l.toArray xs l.length a) u := by
   have h1 := putAll_met (vs := xs) (a := a) u htidy l.length (by simp)
   refine ⟨h1.defers, h1.size, fun t ht => h1.old t (fun i hi => ht i (by simpa using hi)), fun i t hi hd => ?_⟩
   have h2 := h1.new i t (by simpa using hi) hd
   have h3 : (putAll l.toArray xs l.length a).tmps.getD t undef = xs.getD i undef := h2
   rw [h3]
   exact hF i t hi hd
  have e : putAll l.toArray xs l.length a = putAll l.toArray vs l.length a := met_all_list htidy hm2
  rw [e]
  exact hend u hI.1
end Go.Proofs.YtpjaajeojiaeiaaGreatDoor
