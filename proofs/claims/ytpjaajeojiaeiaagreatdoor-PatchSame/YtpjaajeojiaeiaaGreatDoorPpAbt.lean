/- Messages about packets, with other ends (mathematics; nothing of the program). -/
import Derived.Test.YtpjaajeojiaeiaaGreatDoorPpMade
namespace Go.Proofs.YtpjaajeojiaeiaaGreatDoor
open Go.RowKit

theorem qE_bits {q : ByteArray} (h : qE q = 0) : got q 0 1 / 16 = 4 ∧ got q 6 2 % 8192 = 0 := by
  have hb : qB3 q = false ∧ qB5 q = false := by
    unfold qE at h
    split at h
    · cases h
    · split at h
      · cases h
      · split at h
        · cases h
        · split at h
          · cases h
          · exact ⟨by simpa using (by assumption : ¬ qB3 q = true), by simpa using (by assumption : ¬ qB5 q = true)⟩
  obtain ⟨b3, b5⟩ := hb
  unfold qB3 at b3
  unfold qB5 at b5
  simp at b3 b5
  exact ⟨b3, b5⟩
/-- A quote, by its parts. -/
structure Quo (Q : ByteArray) (A T : List UInt8) (p : Int) (e : En) (n : Nat) (C R : List UInt8) : Prop where
  all : Q.data.toList = A ++ (T ++ (Oct.be 1 p.toNat ++ (C ++ (Oct.be 4 e.src.toNat ++ (Oct.be 4 e.dst.toNat ++ (Oct.be 2 e.sport.toNat ++ (Oct.be 2 e.dport.toNat ++ R)))))))
  a : A.length = 8
  t : T.length = 1
  c : C.length = 2
  size : Q.size = n
  lo : 28 ≤ n
  hi : n ≤ 1000
  z0 : Oct.num (A.take 1) = 69
  z6 : Oct.num (A.drop 6) % 8192 = 0
  p' : p = 6 ∨ p = 17
  e' : e.Wf
theorem split0 (A X : List UInt8) : A ++ X = [] ++ (A.take 1 ++ (A.drop 1 ++ X)) := by rw [List.nil_append, ← List.append_assoc, List.take_append_drop]
theorem split6 (A X : List UInt8) : A ++ X = A.take 6 ++ (A.drop 6 ++ X) := by rw [← List.append_assoc, List.take_append_drop]
theorem num_be1 {n : Int} (h0 : 0 ≤ n) (h1 : n ≤ 255) : (Oct.num (Oct.be 1 n.toNat) : Int) = n := by rw [Oct.num_be _ _ (by show _ < 256; omega)]; omega
theorem num_be2 {n : Int} (h0 : 0 ≤ n) (h1 : n ≤ 65535) : (Oct.num (Oct.be 2 n.toNat) : Int) = n := by rw [Oct.num_be _ _ (by show _ < 65536; omega)]; omega
theorem num_be4 {n : Int} (h0 : 0 ≤ n) (h1 : n ≤ 4294967295) : (Oct.num (Oct.be 4 n.toNat) : Int) = n := by rw [Oct.num_be _ _ (by show _ < 4294967296; omega)]; omega
theorem Quo.gots {Q : ByteArray} {A T C R : List UInt8} {p : Int} {e : En} {n : Nat} (h : Quo Q A T p e n C R) : got Q 0 1 = 69 ∧ got Q 6 2 % 8192 = 0 ∧ got Q 9 1 = p ∧ got Q 12 4 = e.src ∧ got Q 16 4 = e.dst ∧ got Q 20 2 = e.sport ∧ got Q 22 2 = e.dport := by
  have hp : 0 ≤ p ∧ p ≤ 255 := by rcases h.p' with h | h <;> omega
  have w := h.e'
  have hall := h.all
  have hA := h.a
  have l1 : (A.take 1).length = 1 := by rw [List.length_take]; omega
  have l2 : (A.take 6).length = 6 := by rw [List.length_take]; omega
  have l3 : (A.drop 6).length = 2 := by rw [List.length_drop]; omega
  refine ⟨?_, ?_, ?_, ?_, ?_, ?_, ?_⟩
  · have h1 : got Q 0 1 = Oct.num (A.take 1) := Ps.got_part (p := 0) (k := 1) (hall.trans (split0 _ _)) rfl l1 (by decide) (by decide)
    rw [h1, h.z0]; rfl
  · have h1 : got Q 6 2 = Oct.num (A.drop 6) := Ps.got_part (p := 6) (k := 2) (hall.trans (split6 _ _)) l2 l3 (by decide) (by decide)
    rw [h1]
    have := h.z6
    omega
  · rw [← num_be1 hp.1 hp.2]
    exact Ps.got_part (A := A ++ T) (C := C ++ (Oct.be 4 e.src.toNat ++ (Oct.be 4 e.dst.toNat ++ (Oct.be 2 e.sport.toNat ++ (Oct.be 2 e.dport.toNat ++ R))))) (p := 9) (k := 1) (by rw [hall]; simp only [List.append_assoc]) (by rw [List.length_append, h.a, h.t]) (Oct.be_length _ _) (by decide) (by decide)
  · rw [← num_be4 w.src.1 w.src.2]
    exact Ps.got_part (A := A ++ (T ++ (Oct.be 1 p.toNat ++ C))) (C := Oct.be 4 e.dst.toNat ++ (Oct.be 2 e.sport.toNat ++ (Oct.be 2 e.dport.toNat ++ R))) (p := 12) (k := 4) (by rw [hall]; simp only [List.append_assoc]) (by simp only [List.length_append, h.a, h.t, h.c, Oct.be_length]) (Oct.be_length _ _) (by decide) (by decide)
  · rw [← num_be4 w.dst.1 w.dst.2]
    exact Ps.got_part (A := A ++ (T ++ (Oct.be 1 p.toNat ++ (C ++ Oct.be 4 e.src.toNat)))) (C := Oct.be 2 e.sport.toNat ++ (Oct.be 2 e.dport.toNat ++ R)) (p := 16) (k := 4) (by rw [hall]; simp only [List.append_assoc]) (by simp only [List.length_append, h.a, h.t, h.c, Oct.be_length]) (Oct.be_length _ _) (by decide) (by decide)
  · rw [← num_be2 w.sport.1 w.sport.2]
    exact Ps.got_part (A := A ++ (T ++ (Oct.be 1 p.toNat ++ (C ++ (Oct.be 4 e.src.toNat ++ Oct.be 4 e.dst.toNat))))) (C := Oct.be 2 e.dport.toNat ++ R) (p := 20) (k := 2) (by rw [hall]; simp only [List.append_assoc]) (by simp only [List.length_append, h.a, h.t, h.c, Oct.be_length]) (Oct.be_length _ _) (by decide) (by decide)
  · rw [← num_be2 w.dport.1 w.dport.2]
    exact Ps.got_part (A := A ++ (T ++ (Oct.be 1 p.toNat ++ (C ++ (Oct.be 4 e.src.toNat ++ (Oct.be 4 e.dst.toNat ++ Oct.be 2 e.sport.toNat)))))) (C := R) (p := 22) (k := 2) (by rw [hall]; simp only [List.append_assoc]) (by simp only [List.length_append, h.a, h.t, h.c, Oct.be_length]) (Oct.be_length _ _) (by decide) (by decide)
abbrev En.tup (e : En) (p : Int) : Tp := ⟨p, e.src, e.dst, e.sport, e.dport⟩
theorem Quo.tells {Q : ByteArray} {A T C R : List UInt8} {p : Int} {e : En} {n : Nat} (h : Quo Q A T p e n C R) : qE Q = 0 ∧ qT Q = e.tup p ∧ qN Q = 20 := by
  obtain ⟨g0, g6, g9, g12, g16, g20, g22⟩ := h.gots
  have hz := h.size
  have hlo := h.lo
  have hS : qSize Q = 20 := by unfold qSize; rw [g0]; rfl
  have hE : qE Q = 0 := by
    have b3 : qB3 Q = false := by unfold qB3; rw [g0]; rfl
    have b4 : qB4 Q = false := by unfold qB4; rw [hS]; simp; omega
    have b5 : qB5 Q = false := by unfold qB5; rw [g6]; rfl
    have b6 : qB6 Q = false := by unfold qB6; rw [g9]; rcases h.p' with h | h <;> rw [h] <;> rfl
    have b7 : qB7 Q = false := by unfold qB7; rw [hS]; simp; omega
    unfold qE
    rw [if_neg (by simp; omega), b3, b4, b5, b6, b7]
    rfl
  obtain ⟨h1, h2⟩ := qE_yes hE
  refine ⟨hE, ?_, by rw [h2, hS]⟩
  rw [h1, hS, g9, g12, g16, g20]
  show Tp.mk _ _ _ _ (got Q 22 2) = _
  rw [g22]
theorem onA_rng (was : Tp) (t : En) (c : Int) : 0 ≤ onA was t c ∧ onA was t c ≤ 65535 := adrF_rng _ _ _
theorem onP_rng (was : Tp) (t : En) (c : Int) : 0 ≤ onP was t c ∧ onP was t c ≤ 65535 := prtF_rng _ _ _
theorem onE_rng (was : Tp) (t : En) (c : Int) (h0 : 0 ≤ c) (h1 : c ≤ 65535) : 0 ≤ onE was t c ∧ onE was t c ≤ 65535 := by
  unfold onE
  split
  · exact udpF_rng (fun c _ _ => onP_rng was t c) c h0 h1
  · exact onP_rng was t c
/-- The quote, turned. -/
theorem Quo.turn {Q : ByteArray} {A T C R : List UInt8} {p : Int} {e : En} {n : Nat} (h : Quo Q A T p e n C R) {t : En} (w : t.Wf) : ∃ C' R', Quo (quoS Q 20 (e.tup p) t) A T p t n C' R' ∧ R'.length = R.length := by
  have hlo := h.lo
  have hsz := h.size
  have zh : (Q.extract 0 (20 : Int).toNat).size = 20 := by show (Q.extract 0 20).size = 20; rw [ByteArray.size_extract]; omega
  have hl20 : (A ++ (T ++ (Oct.be 1 p.toNat ++ (C ++ (Oct.be 4 e.src.toNat ++ Oct.be 4 e.dst.toNat))))).length = 20 := by simp only [List.length_append, h.a, h.t, h.c, Oct.be_length]
  have eall : Q.data.toList = (A ++ (T ++ (Oct.be 1 p.toNat ++ (C ++ (Oct.be 4 e.src.toNat ++ Oct.be 4 e.dst.toNat))))) ++ (Oct.be 2 e.sport.toNat ++ (Oct.be 2 e.dport.toNat ++ R)) := by rw [h.all]; simp only [List.append_assoc]
  have lh : (Q.extract 0 (20 : Int).toNat).data.toList = A ++ (T ++ (Oct.be 1 p.toNat ++ (C ++ (Oct.be 4 e.src.toNat ++ Oct.be 4 e.dst.toNat)))) := by
    show (Q.extract 0 20).data.toList = _
    rw [Oct.ext_list, List.drop_zero, eall]; exact Ip.take_len hl20
  have lr : (Q.extract (20 : Int).toNat Q.size).data.toList = Oct.be 2 e.sport.toNat ++ (Oct.be 2 e.dport.toNat ++ R) := by
    show (Q.extract 20 Q.size).data.toList = _
    rw [Oct.ext_list, List.take_of_length_le (by rw [Oct.len_eq]; exact Nat.le_refl _), eall]; exact Ip.drop_len hl20
  have v : H20 (Q.extract 0 (20 : Int).toNat).data.toList A T (Oct.be 1 p.toNat) C (Oct.be 4 e.src.toNat) (Oct.be 4 e.dst.toNat) [] := ⟨by rw [lh, List.append_nil], h.a, h.t, Oct.be_length _ _, h.c, Oct.be_length _ _, Oct.be_length _ _⟩
  -- the header
  have la := addrS_list (by omega) w.src w.dst (s := Q.extract 0 (20 : Int).toNat)
  have za := addrS_size (by omega) w.src w.dst (s := Q.extract 0 (20 : Int).toNat)
  have va := v.addr t.src.toNat t.dst.toNat
  rw [← la] at va
  obtain ⟨C', hC', hA⟩ : ∃ C', C'.length = 2 ∧ (quoA Q 20 (e.tup p) t).data.toList = A ++ (T ++ (Oct.be 1 p.toNat ++ (C' ++ (Oct.be 4 t.src.toNat ++ (Oct.be 4 t.dst.toNat ++ []))))) := by
    unfold quoA goOnS
    generalize addrS (Q.extract 0 (20 : Int).toNat) t.src t.dst = X at *
    rw [if_pos ((gotB_iff _ _ _).2 ⟨⟨by decide, by decide⟩, by decide, by omega⟩)]
    have hr := onA_rng (e.tup p) t (got X 10 2)
    generalize onA (e.tup p) t (got X 10 2) = c at *
    have hs : (set X 10 2 c).data.toList = Oct.put X.data.toList 10 2 c.toNat := set_list 10 2 (by decide) (by omega) hr.1 (lt2 hr.2 hr.1)
    exact ⟨Oct.be 2 c.toNat, Oct.be_length _ _, by rw [hs]; exact (va.check c.toNat).all⟩
  -- what stands behind
  have zr : (Q.extract (20 : Int).toNat Q.size).size = n - 20 := by show (Q.extract 20 Q.size).size = _; rw [ByteArray.size_extract]; omega
  have lp := portS_list (s := Q.extract (20 : Int).toNat Q.size) (by omega) w.sport w.dport
  have zp := portS_size (s := Q.extract (20 : Int).toNat Q.size) (by omega) w.sport w.dport
  rw [portL_eq (by rw [Oct.len_eq]; omega), lr, drop_two] at lp
  have hRl : 4 + R.length = n - 20 := by have := congrArg List.length lr; rw [Oct.len_eq] at this; simp only [List.length_append, Oct.be_length] at this; omega
  obtain ⟨R', hR', hB⟩ : ∃ R', R'.length = R.length ∧ (quoB Q 20 (e.tup p) t).data.toList = Oct.be 2 t.sport.toNat ++ (Oct.be 2 t.dport.toNat ++ R') := by
    unfold quoB goOnS
    generalize portS (Q.extract (20 : Int).toNat Q.size) t.sport t.dport = X at *
    by_cases hg : gotB X (Ps.plc (e.tup p).proto) 2 = true
    · rw [if_pos hg]
      obtain ⟨-, g0, g1⟩ := (gotB_iff _ _ _).1 hg
      obtain ⟨k, hk, hk4⟩ : ∃ k : Nat, Ps.plc (e.tup p).proto = (k : Int) ∧ 4 ≤ k := by
        rcases h.p' with hp | hp
        · exact ⟨16, by show Ps.plc p = _; rw [hp]; rfl, by decide⟩
        · exact ⟨6, by show Ps.plc p = _; rw [hp]; rfl, by decide⟩
      have g2 := got2_rng X (Ps.plc (e.tup p).proto)
      have hr := onE_rng (e.tup p) t (got X (Ps.plc (e.tup p).proto) 2) g2.1 g2.2
      generalize onE (e.tup p) t (got X (Ps.plc (e.tup p).proto) 2) = c at *
      rw [hk] at g0 g1 ⊢
      have hs : (set X (k : Int) 2 c).data.toList = Oct.put X.data.toList k 2 c.toNat := set_list k 2 (by decide) (by omega) hr.1 (lt2 hr.2 hr.1)
      have hX := Oct.len_eq X
      refine ⟨Oct.put R (k - 4) 2 c.toNat, Oct.put_length _ _ _ _ (by omega), ?_⟩
      rw [hs, lp, put_snd _ _ (k - 2) k 2 _ (by rw [Oct.be_length]; omega), put_snd _ _ (k - 4) (k - 2) 2 _ (by rw [Oct.be_length]; omega)]
    · rw [if_neg hg]
      exact ⟨R, rfl, lp⟩
  have hl : (quoS Q 20 (e.tup p) t).data.toList = A ++ (T ++ (Oct.be 1 p.toNat ++ (C' ++ (Oct.be 4 t.src.toNat ++ (Oct.be 4 t.dst.toNat ++ (Oct.be 2 t.sport.toNat ++ (Oct.be 2 t.dport.toNat ++ R'))))))) := by
    unfold quoS
    rw [Ip.app_list, hA, hB]
    simp only [List.append_assoc, List.append_nil]
  refine ⟨C', R', ⟨hl, h.a, h.t, hC', ?_, h.lo, h.hi, h.z0, h.z6, h.p', w⟩, hR'⟩
  rw [← Oct.len_eq, hl]
  simp only [List.length_append, h.a, h.t, hC', Oct.be_length]
  omega
/-- A message about a packet. -/
def abS (ttl frm dest code : Int) (Q : ByteArray) : ByteArray := Ip.built ⟨0, 0, 0, 0, ttl, 1, frm, dest, ⟨#[]⟩⟩ (Ic.built ⟨3, code, 1400, Q⟩)
theorem good_ab {code : Int} (h : 0 ≤ code ∧ code ≤ 255) (Q : ByteArray) : Ic.Good ⟨3, code, 1400, Q⟩ := ⟨by show (0 : Int) ≤ 3; decide, by show (3 : Int) ≤ 255; decide, h.1, h.2, by show (0 : Int) ≤ 1400; decide, by show (1400 : Int) ≤ 4294967295; decide⟩
theorem ab_size {code : Int} (h : 0 ≤ code ∧ code ≤ 255) (Q : ByteArray) : (Ic.built ⟨3, code, 1400, Q⟩).size = 8 + Q.size := Ic.built_size (good_ab h Q)
theorem ab_built {ttl frm dest code : Int} (ht : 0 ≤ ttl ∧ ttl ≤ 255) (hf : Ps.U32 frm) (hd : Ps.U32 dest) (hc : 0 ≤ code ∧ code ≤ 255) {Q : ByteArray} (hQ : Q.size ≤ 1000) : Ip.Built ⟨0, 0, 0, 0, ttl, 1, frm, dest, ⟨#[]⟩⟩ (Ic.built ⟨3, code, 1400, Q⟩) := by
  have := ab_size hc Q
  exact ip_built (by decide) (by decide) (by decide) ht (by decide) hf hd (by omega)
theorem abS_size {ttl frm dest code : Int} (hc : 0 ≤ code ∧ code ≤ 255) (Q : ByteArray) : (abS ttl frm dest code Q).size = 28 + Q.size := by
  unfold abS
  rw [ip_size _ rfl, ab_size hc]; omega
theorem cls_ab {ttl frm dest code : Int} (ht : 0 ≤ ttl ∧ ttl ≤ 255) (hf : Ps.U32 frm) (hd : Ps.U32 dest) (hc : 0 ≤ code ∧ code ≤ 255) {Q : ByteArray} {A T C R : List UInt8} {p : Int} {e : En} {n : Nat} (h : Quo Q A T p e n C R) (more : ByteArray) :
    clsE (abS ttl frm dest code Q ++ more) = 0 ∧ clsP (abS ttl frm dest code Q ++ more) = ⟨2, 20, 28 + n, e.tup p, 0, ttl, frm, dest, 28, 48⟩ := by
  have hn := h.hi
  have hsz := h.size
  obtain ⟨h1, h2⟩ := cls_whole (ab_built (Q := Q) ht hf hd hc (by omega)) rfl rfl more
  obtain ⟨q1, q2, q3⟩ := h.tells
  obtain ⟨p1, p2⟩ := Ic.parse_built (good_ab hc Q)
  have hz' : (20 : Int) + ((Ic.built ⟨3, code, 1400, Q⟩).size : Int) = 28 + n := by rw [ab_size hc]; omega
  have hE : msgE (Ic.built ⟨3, code, 1400, Q⟩) = 0 := by
    unfold msgE
    rw [first3 p1 (by unfold typE; rw [p2]; rfl), p2]
    exact q1
  change clsE (abS ttl frm dest code Q ++ more) = _ at h1
  change clsP (abS ttl frm dest code Q ++ more) = _ at h2
  rw [h1, h2]
  show inE 1 ⟨0, 20, 20 + (Ic.built ⟨3, code, 1400, Q⟩).size, zeroTp, 0, ttl, frm, dest, 0, 0⟩ _ = 0 ∧ inP 1 ⟨0, 20, 20 + (Ic.built ⟨3, code, 1400, Q⟩).size, zeroTp, 0, ttl, frm, dest, 0, 0⟩ _ = _
  rw [hz']
  refine ⟨by unfold inE; rw [if_neg (by decide), if_neg (by decide), if_pos rfl]; exact hE, ?_⟩
  unfold inP
  rw [if_neg (by decide), if_neg (by decide), if_pos rfl, msgP_yes hE, p2, q2, q3]
  rfl
/-- A message that is made, turned. -/
theorem about_made {ttl frm dest code : Int} (ht : 2 ≤ ttl ∧ ttl ≤ 255) (hf : Ps.U32 frm) (hd : Ps.U32 dest) (hc : 0 ≤ code ∧ code ≤ 255) {Q : ByteArray} {A T C R : List UInt8} {p : Int} {e : En} {n : Nat} (h : Quo Q A T p e n C R) (more : ByteArray)
    {src dst : Int} (hs : Ps.U32 src) (hD : Ps.U32 dst) {t : En} (w : t.Wf) :
    alwE (abS ttl frm dest code Q ++ more) 2 t = 0 ∧ aboutS (abS ttl frm dest code Q ++ more) src dst t = abS (ttl - 1) src dst code (quoS Q 20 (e.tup p) t) := by
  have hn := h.hi
  have hsz := h.size
  have ht0 : 0 ≤ ttl ∧ ttl ≤ 255 := by omega
  have ht1 : 0 ≤ ttl - 1 ∧ ttl - 1 ≤ 255 := by omega
  obtain ⟨h1, h2⟩ := cls_ab ht0 hf hd hc h more
  have h0 := alw_told0 (kind := 2) h1 h2 rfl w (by show 2 ≤ ttl; omega)
  refine ⟨h0, ?_⟩
  have b := ab_built ht0 hf hd hc (Q := Q) (by omega)
  obtain ⟨C', R', h', -⟩ := h.turn w
  have hsz' := h'.size
  have b' := ab_built ht1 hs hD hc (Q := quoS Q 20 (e.tup p) t) (by omega)
  rw [aboutS_yes h0]
  unfold abtA abtB
  rw [h2]
  show outerS ((abS ttl frm dest code Q ++ more).extract 0 (20 : Int).toNat) (ttl - 1) src dst ++ msgT ((abS ttl frm dest code Q ++ more).extract (20 : Int).toNat (28 + (n : Int)).toNat) _ t = _
  have hh : (Ip.bhead ⟨0, 0, 0, 0, ttl, 1, frm, dest, ⟨#[]⟩⟩ (Ic.built ⟨3, code, 1400, Q⟩)).size = 20 := Ip.bhead_size _
  have c1 : (abS ttl frm dest code Q ++ more).extract 0 (20 : Int).toNat = Ip.bhead ⟨0, 0, 0, 0, ttl, 1, frm, dest, ⟨#[]⟩⟩ (Ic.built ⟨3, code, 1400, Q⟩) := by
    show (Ip.bhead ⟨0, 0, 0, 0, ttl, 1, frm, dest, ⟨#[]⟩⟩ (Ic.built ⟨3, code, 1400, Q⟩) ++ Ic.built ⟨3, code, 1400, Q⟩ ++ more).extract 0 20 = _
    rw [ByteArray.append_assoc]
    exact cut_left _ _ 20 hh
  have c2 : (abS ttl frm dest code Q ++ more).extract (20 : Int).toNat (28 + (n : Int)).toNat = Ic.built ⟨3, code, 1400, Q⟩ := cut_mid' _ _ _ 20 _ hh (by rw [ab_size hc]; omega)
  rw [c1, c2]
  obtain ⟨p1, p2⟩ := Ic.parse_built (good_ab hc Q)
  have hm : msgT (Ic.built ⟨3, code, 1400, Q⟩) ⟨2, 20, 28 + n, e.tup p, 0, ttl, frm, dest, 28, 48⟩ t = Ic.built ⟨3, code, 1400, quoS Q 20 (e.tup p) t⟩ := by
    unfold msgT msgH
    rw [p2]
    show Ic.buildS ⟨3, code, 1400, quoS Q (48 - 28) (e.tup p) t⟩ = _
    rw [show (48 : Int) - 28 = 20 from rfl]
    refine Ic.buildS_of (Ic.buildE_of (good_ab hc _) ?_)
    show 8 + ((quoS Q 20 (e.tup p) t).size : Int) ≤ 1500
    omega
  rw [hm]
  have hsb : (Ic.built ⟨3, code, 1400, quoS Q 20 (e.tup p) t⟩).size = (Ic.built ⟨3, code, 1400, Q⟩).size := by rw [ab_size hc, ab_size hc]; omega
  have hb' : Ip.Built ⟨0, 0, 0, 0, ttl - 1, 1, src, dst, ⟨#[]⟩⟩ (Ic.built ⟨3, code, 1400, Q⟩) := ⟨b'.r, b'.w, by have := b'.l; unfold Ip.btotal at this ⊢; rw [← hsb]; exact this⟩
  have ho : outerS (Ip.bhead ⟨0, 0, 0, 0, ttl, 1, frm, dest, ⟨#[]⟩⟩ (Ic.built ⟨3, code, 1400, Q⟩)) (ttl - 1) src dst = Ip.bhead ⟨0, 0, 0, 0, ttl - 1, 1, src, dst, ⟨#[]⟩⟩ (Ic.built ⟨3, code, 1400, Q⟩) := by
    apply Oct.ba_ext
    rw [outerS_list (by omega) ht1 hs hD, outL_built b hb']
  rw [ho]
  have e1 : Ip.bhead ⟨0, 0, 0, 0, ttl - 1, 1, src, dst, ⟨#[]⟩⟩ (Ic.built ⟨3, code, 1400, Q⟩) = Ip.bhead ⟨0, 0, 0, 0, ttl - 1, 1, src, dst, ⟨#[]⟩⟩ (Ic.built ⟨3, code, 1400, quoS Q 20 (e.tup p) t⟩) := by
    unfold Ip.bhead Ip.bcheck Ip.bsummed Ip.btotal
    rw [hsb]
  rw [e1]
  rfl
/-- A message of the law's package is such a one. -/
theorem frame_ab {m : Mk} (hk : ¬ m.kind % 4 < 2) : frameS m = abS m.ttl m.frm m.dest (m.flags % 6) (ich m).body := if_neg hk
abbrev Mk.ends (m : Mk) : En := ⟨m.src, m.dst, m.sport, m.dport⟩
theorem ends_wf {m : Mk} (w : m.Wf) : m.ends.Wf := ⟨w.src, w.dst, w.sport, w.dport⟩
theorem quo_made {m : Mk} (w : m.Wf) : ∃ A T C R, Quo (ich m).body A T (pr m) m.ends (quoN m) C R := by
  obtain ⟨R, hR⟩ := quo_list w
  have b := in_built w
  have v := ftext_h20 (b.fits (Ip.bcheck_lo (iph m) (segS m (pr m))) (Ip.bcheck_hi (iph m) (segS m (pr m)))) (Oct.be 2 m.sport.toNat ++ (Oct.be 2 m.dport.toNat ++ R))
  obtain ⟨q1, q2, q3⟩ := quo_tells w
  obtain ⟨g0, g6⟩ := qE_bits q1
  obtain ⟨-, h2⟩ := qE_yes q1
  have hs : qSize (ich m).body = 20 := by rw [← h2]; exact q3
  unfold qSize at hs
  have hq := ich_body w
  have hn := quoN_rng w
  have hi := inS_size w
  rw [v.all] at hR
  have hA := v.a
  generalize Oct.be 4 (Ip.fw0 (Ip.hfix (iph m) (Ip.btotal (iph m) (segS m (pr m))) (Ip.bcheck (iph m) (segS m (pr m))))).toNat ++ Oct.be 4 (Ip.fw1 (Ip.hfix (iph m) (Ip.btotal (iph m) (segS m (pr m))) (Ip.bcheck (iph m) (segS m (pr m))))).toNat = A at *
  have hl : (ich m).body.data.toList = A ++ (Oct.be 1 m.ttl.toNat ++ (Oct.be 1 (pr m).toNat ++ (Oct.be 2 (Ip.bcheck (iph m) (segS m (pr m))).toNat ++ (Oct.be 4 m.src.toNat ++ (Oct.be 4 m.dst.toNat ++ (Oct.be 2 m.sport.toNat ++ (Oct.be 2 m.dport.toNat ++ R))))))) := hR
  have l1 : (A.take 1).length = 1 := by rw [List.length_take]; omega
  have l2 : (A.take 6).length = 6 := by rw [List.length_take]; omega
  have l3 : (A.drop 6).length = 2 := by rw [List.length_drop]; omega
  have k0 : got (ich m).body 0 1 = Oct.num (A.take 1) := Ps.got_part (p := 0) (k := 1) (hl.trans (split0 _ _)) rfl l1 (by decide) (by decide)
  have k6 : got (ich m).body 6 2 = Oct.num (A.drop 6) := Ps.got_part (p := 6) (k := 2) (hl.trans (split6 _ _)) l2 l3 (by decide) (by decide)
  rw [k0] at g0 hs
  rw [k6] at g6
  exact ⟨A, _, _, R, hl, hA, Oct.be_length _ _, Oct.be_length _ _, hq.1, hn.1, by omega, by omega, by omega, pr_or m, ends_wf w⟩
end Go.Proofs.YtpjaajeojiaeiaaGreatDoor
