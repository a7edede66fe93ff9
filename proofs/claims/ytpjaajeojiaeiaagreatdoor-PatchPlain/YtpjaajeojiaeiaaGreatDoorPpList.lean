/- Numbers that are laid into texts, as lists of bytes (mathematics; nothing of the program). -/
import Derived.Test.YtpjaajeojiaeiaaGreatDoorPsB
namespace Go.Proofs.YtpjaajeojiaeiaaGreatDoor
open Go.RowKit

theorem put_fst (a b : List UInt8) (p k n : Nat) (h : p + k ≤ a.length) : Oct.put (a ++ b) p k n = Oct.put a p k n ++ b := by
  unfold Oct.put
  rw [List.take_append_of_le_length (by omega), List.drop_append_of_le_length h]
  simp only [List.append_assoc]
theorem put_snd (a b : List UInt8) (p q k n : Nat) (h : q = a.length + p) : Oct.put (a ++ b) q k n = a ++ Oct.put b p k n := by
  subst h
  unfold Oct.put
  rw [List.take_append, List.drop_append, List.take_of_length_le (by omega), List.drop_of_length_le (by omega)]
  rw [show a.length + p - a.length = p by omega, show a.length + p + k - a.length = p + k by omega]
  simp only [List.append_assoc, List.nil_append]
theorem put_all (b : List UInt8) (k n : Nat) (C : List UInt8) (h : b.length = k) : Oct.put (b ++ C) 0 k n = Oct.be k n ++ C := by
  unfold Oct.put
  rw [List.take_zero, List.nil_append, Nat.zero_add, ← h, List.drop_left]
theorem put_mid (l A B C : List UInt8) (p k n : Nat) (h : l = A ++ (B ++ C)) (hA : A.length = p) (hB : B.length = k) : Oct.put l p k n = A ++ (Oct.be k n ++ C) := by
  rw [h, put_snd A (B ++ C) 0 p k n (by omega), put_all B k n C hB]
/-- A number that is set, as a list. -/
theorem set_list {s : ByteArray} (p k : Nat) {n : Int} (hk : 1 ≤ k ∧ k ≤ 4) (hp : p + k ≤ s.size) (h0 : 0 ≤ n) (h1 : n.toNat < 256 ^ k) : (set s p k n).data.toList = Oct.put s.data.toList p k n.toNat := by
  have hb : setB s p k n = true := by
    unfold setB
    rw [Bool.and_eq_true]
    exact ⟨(gotB_iff _ _ _).2 ⟨⟨by omega, by omega⟩, by omega, by omega⟩, (laidB_iff _ _).2 ⟨⟨by omega, by omega⟩, h0, by simpa using h1⟩⟩
  unfold set
  rw [if_pos hb]
  rfl
theorem set_size' {s : ByteArray} (p k : Nat) {n : Int} (hk : 1 ≤ k ∧ k ≤ 4) (hp : p + k ≤ s.size) (h0 : 0 ≤ n) (h1 : n.toNat < 256 ^ k) : (set s p k n).size = s.size := by
  rw [← Oct.len_eq, set_list p k hk hp h0 h1, Oct.put_length _ _ _ _ (by rw [Oct.len_eq]; exact hp), Oct.len_eq]
theorem set_le (s : ByteArray) (p k n : Int) : (set s p k n).size ≤ s.size := by
  unfold set
  split
  · rename_i h
    unfold setB at h
    rw [Bool.and_eq_true] at h
    obtain ⟨⟨h1, h2⟩, h3, h4⟩ := (gotB_iff _ _ _).1 h.1
    rw [Oct.put_size _ _ _ _ (by omega)]
    exact Nat.le_refl _
  · exact Nat.zero_le _
theorem lt1 {n : Int} (h1 : n ≤ 255) (h0 : 0 ≤ n) : n.toNat < 256 ^ 1 := by show _ < 256; omega
theorem lt2 {n : Int} (h1 : n ≤ 65535) (h0 : 0 ≤ n) : n.toNat < 256 ^ 2 := by show _ < 65536; omega
theorem lt4 {n : Int} (h1 : n ≤ 4294967295) (h0 : 0 ≤ n) : n.toNat < 256 ^ 4 := by show _ < 4294967296; omega

/-- The parts of a header: what is ahead of its life, its life, its protocol, its check, its addresses, and what stands behind. -/
structure H20 (l A T P C S D O : List UInt8) : Prop where
  all : l = A ++ (T ++ (P ++ (C ++ (S ++ (D ++ O)))))
  a : A.length = 8
  t : T.length = 1
  p : P.length = 1
  c : C.length = 2
  s : S.length = 4
  d : D.length = 4
theorem take_step (l : List UInt8) (n k : Nat) : l.drop n = (l.drop n).take k ++ l.drop (n + k) := by rw [← List.drop_drop, List.take_append_drop]
theorem h20_of (l : List UInt8) (h : 20 ≤ l.length) : H20 l (l.take 8) ((l.drop 8).take 1) ((l.drop 9).take 1) ((l.drop 10).take 2) ((l.drop 12).take 4) ((l.drop 16).take 4) (l.drop 20) := by
  refine ⟨?_, ?_, ?_, ?_, ?_, ?_, ?_⟩
  · rw [← take_step l 16 4, ← take_step l 12 4, ← take_step l 10 2, ← take_step l 9 1, ← take_step l 8 1, List.take_append_drop]
  all_goals (simp only [List.length_take, List.length_drop]; omega)
theorem H20.size {l A T P C S D O : List UInt8} (h : H20 l A T P C S D O) : l.length = 20 + O.length := by
  rw [h.all]; simp only [List.length_append, h.a, h.t, h.p, h.c, h.s, h.d]; omega
theorem H20.ttl {l A T P C S D O : List UInt8} (h : H20 l A T P C S D O) (n : Nat) : H20 (Oct.put l 8 1 n) A (Oct.be 1 n) P C S D O :=
  ⟨put_mid l A T _ 8 1 n h.all h.a h.t, h.a, Oct.be_length _ _, h.p, h.c, h.s, h.d⟩
theorem H20.check {l A T P C S D O : List UInt8} (h : H20 l A T P C S D O) (n : Nat) : H20 (Oct.put l 10 2 n) A T P (Oct.be 2 n) S D O := by
  refine ⟨?_, h.a, h.t, h.p, Oct.be_length _ _, h.s, h.d⟩
  rw [put_mid l (A ++ (T ++ P)) C (S ++ (D ++ O)) 10 2 n (by rw [h.all]; simp only [List.append_assoc]) (by simp only [List.length_append, h.a, h.t, h.p]) h.c]
  simp only [List.append_assoc]
theorem H20.src {l A T P C S D O : List UInt8} (h : H20 l A T P C S D O) (n : Nat) : H20 (Oct.put l 12 4 n) A T P C (Oct.be 4 n) D O := by
  refine ⟨?_, h.a, h.t, h.p, h.c, Oct.be_length _ _, h.d⟩
  rw [put_mid l (A ++ (T ++ (P ++ C))) S (D ++ O) 12 4 n (by rw [h.all]; simp only [List.append_assoc]) (by simp only [List.length_append, h.a, h.t, h.p, h.c]) h.s]
  simp only [List.append_assoc]
theorem H20.dst {l A T P C S D O : List UInt8} (h : H20 l A T P C S D O) (n : Nat) : H20 (Oct.put l 16 4 n) A T P C S (Oct.be 4 n) O := by
  refine ⟨?_, h.a, h.t, h.p, h.c, h.s, Oct.be_length _ _⟩
  rw [put_mid l (A ++ (T ++ (P ++ (C ++ S)))) D O 16 4 n (by rw [h.all]; simp only [List.append_assoc]) (by simp only [List.length_append, h.a, h.t, h.p, h.c, h.s]) h.d]
  simp only [List.append_assoc]
theorem H20.cut {l A T P C S D O : List UInt8} (h : H20 l A T P C S D O) (n : Nat) (hn : 20 ≤ n) : H20 (l.take n) A T P C S D (O.take (n - 20)) := by
  refine ⟨?_, h.a, h.t, h.p, h.c, h.s, h.d⟩
  have e : l = (A ++ (T ++ (P ++ (C ++ (S ++ D))))) ++ O := by rw [h.all]; simp only [List.append_assoc]
  have hl : (A ++ (T ++ (P ++ (C ++ (S ++ D))))).length = 20 := by simp only [List.length_append, h.a, h.t, h.p, h.c, h.s, h.d]
  rw [e, List.take_append, List.take_of_length_le (by omega), hl]
  simp only [List.append_assoc]
theorem H20.cut_drop {l A T P C S D O : List UInt8} (h : H20 l A T P C S D O) (n : Nat) (hn : 20 ≤ n) : l.drop n = O.drop (n - 20) := by
  have e : l = (A ++ (T ++ (P ++ (C ++ (S ++ D))))) ++ O := by rw [h.all]; simp only [List.append_assoc]
  have hl : (A ++ (T ++ (P ++ (C ++ (S ++ D))))).length = 20 := by simp only [List.length_append, h.a, h.t, h.p, h.c, h.s, h.d]
  rw [e, List.drop_append, List.drop_of_length_le (by omega), hl, List.nil_append]
/-- The addresses of a header, in a list. -/
def addrL (l : List UInt8) (s d : Nat) : List UInt8 := Oct.put (Oct.put l 12 4 s) 16 4 d
theorem H20.addr {l A T P C S D O : List UInt8} (h : H20 l A T P C S D O) (s d : Nat) : H20 (addrL l s d) A T P C (Oct.be 4 s) (Oct.be 4 d) O := (h.src s).dst d
/-- A header with another life and other addresses, with 0 for its check, and with its check. -/
def outL0 (l : List UInt8) (t s d : Nat) : List UInt8 := Oct.put (Oct.put (addrL l s d) 8 1 t) 10 2 0
def outL (l : List UInt8) (t s d : Nat) : List UInt8 := Oct.put (outL0 l t s d) 10 2 (65535 - Ck.sum (outL0 l t s d)).toNat
theorem H20.out0 {l A T P C S D O : List UInt8} (h : H20 l A T P C S D O) (t s d : Nat) : H20 (outL0 l t s d) A (Oct.be 1 t) P (Oct.be 2 0) (Oct.be 4 s) (Oct.be 4 d) O := ((h.addr s d).ttl t).check 0
theorem H20.out {l A T P C S D O : List UInt8} (h : H20 l A T P C S D O) (t s d : Nat) : H20 (outL l t s d) A (Oct.be 1 t) P (Oct.be 2 (65535 - Ck.sum (A ++ (Oct.be 1 t ++ (P ++ (Oct.be 2 0 ++ (Oct.be 4 s ++ (Oct.be 4 d ++ O))))))).toNat) (Oct.be 4 s) (Oct.be 4 d) O := by
  have g := h.out0 t s d
  unfold outL
  rw [g.all]
  have := g.check (65535 - Ck.sum (A ++ (Oct.be 1 t ++ (P ++ (Oct.be 2 0 ++ (Oct.be 4 s ++ (Oct.be 4 d ++ O))))))).toNat
  rw [g.all] at this
  exact this
/-- As the reference does it: in the whole packet, in another order. -/
def routL0 (l : List UInt8) (t s d : Nat) : List UInt8 := Oct.put (addrL (Oct.put l 8 1 t) s d) 10 2 0
def routL (l : List UInt8) (n t s d : Nat) : List UInt8 := Oct.put (routL0 l t s d) 10 2 (65535 - Ck.sum ((routL0 l t s d).take n)).toNat
theorem routL_eq (l : List UInt8) (n t s d : Nat) (hn : 20 ≤ n) (hl : n ≤ l.length) : routL l n t s d = outL (l.take n) t s d ++ l.drop n := by
  have h := h20_of l (by omega)
  generalize l.take 8 = A at h
  generalize (l.drop 8).take 1 = T at h
  generalize (l.drop 9).take 1 = P at h
  generalize (l.drop 10).take 2 = C at h
  generalize (l.drop 12).take 4 = S at h
  generalize (l.drop 16).take 4 = D at h
  generalize l.drop 20 = O at h
  have g : H20 (routL0 l t s d) A (Oct.be 1 t) P (Oct.be 2 0) (Oct.be 4 s) (Oct.be 4 d) O := ((h.ttl t).addr s d).check 0
  have gc := (g.cut n hn).all
  have hf := (h.cut n hn).out t s d
  unfold routL
  rw [gc, (g.check _).all, hf.all, h.cut_drop n hn]
  simp only [List.append_assoc, List.take_append_drop]

/-- The addresses, the outer header, the ports, in a text. -/
def addrS (s : ByteArray) (src dst : Int) : ByteArray := set (set s 12 4 src) 16 4 dst
theorem addrS_list {s : ByteArray} (h : 20 ≤ s.size) {src dst : Int} (hs : Ps.U32 src) (hd : Ps.U32 dst) : (addrS s src dst).data.toList = addrL s.data.toList src.toNat dst.toNat := by
  have h1 : (set s 12 4 src).data.toList = Oct.put s.data.toList 12 4 src.toNat := set_list 12 4 (by decide) (by omega) hs.1 (lt4 hs.2 hs.1)
  have z1 : (set s 12 4 src).size = s.size := set_size' 12 4 (by decide) (by omega) hs.1 (lt4 hs.2 hs.1)
  have h2 : (set (set s 12 4 src) 16 4 dst).data.toList = Oct.put (set s 12 4 src).data.toList 16 4 dst.toNat := set_list 16 4 (by decide) (by omega) hd.1 (lt4 hd.2 hd.1)
  unfold addrS addrL
  rw [h2, h1]
theorem addrS_size {s : ByteArray} (h : 20 ≤ s.size) {src dst : Int} (hs : Ps.U32 src) (hd : Ps.U32 dst) : (addrS s src dst).size = s.size := by
  rw [← Oct.len_eq, addrS_list h hs hd, ← Oct.len_eq]
  unfold addrL
  have := Oct.len_eq s
  rw [Oct.put_length _ _ _ _ (by rw [Oct.put_length _ _ _ _ (by omega)]; omega), Oct.put_length _ _ _ _ (by omega)]
theorem addrS_le (s : ByteArray) (src dst : Int) : (addrS s src dst).size ≤ s.size := Nat.le_trans (set_le _ _ _ _) (set_le _ _ _ _)
def out0S (s : ByteArray) (ttl src dst : Int) : ByteArray := set (set (addrS s src dst) 8 1 ttl) 10 2 0
def outerS (s : ByteArray) (ttl src dst : Int) : ByteArray := set (out0S s ttl src dst) 10 2 (65535 - Ck.sum (out0S s ttl src dst).data.toList)
theorem out0S_le (s : ByteArray) (ttl src dst : Int) : (out0S s ttl src dst).size ≤ s.size := Nat.le_trans (set_le _ _ _ _) (Nat.le_trans (set_le _ _ _ _) (addrS_le _ _ _))
theorem outerS_le (s : ByteArray) (ttl src dst : Int) : (outerS s ttl src dst).size ≤ s.size := Nat.le_trans (set_le _ _ _ _) (out0S_le _ _ _ _)
theorem outerS_list {s : ByteArray} (h : 20 ≤ s.size) {ttl src dst : Int} (ht : 0 ≤ ttl ∧ ttl ≤ 255) (hs : Ps.U32 src) (hd : Ps.U32 dst) : (outerS s ttl src dst).data.toList = outL s.data.toList ttl.toNat src.toNat dst.toNat := by
  have z0 := addrS_size h hs hd
  have l0 := addrS_list h hs hd
  unfold outL outL0 outerS out0S
  rw [← l0]
  generalize addrS s src dst = X at *
  have h1 : (set X 8 1 ttl).data.toList = Oct.put X.data.toList 8 1 ttl.toNat := set_list 8 1 (by decide) (by omega) ht.1 (lt1 ht.2 ht.1)
  have z1 : (set X 8 1 ttl).size = X.size := set_size' 8 1 (by decide) (by omega) ht.1 (lt1 ht.2 ht.1)
  rw [← h1]
  generalize set X 8 1 ttl = Y at *
  have h2 : (set Y 10 2 0).data.toList = Oct.put Y.data.toList 10 2 0 := set_list 10 2 (by decide) (by omega) (Int.le_refl 0) (by decide)
  have z2 : (set Y 10 2 0).size = Y.size := set_size' 10 2 (by decide) (by omega) (Int.le_refl 0) (by decide)
  rw [← h2]
  generalize set Y 10 2 0 = Z at *
  have c0 := Ck.sum_lo Z.data.toList
  have c1 := Ck.sum_hi Z.data.toList
  generalize Ck.sum Z.data.toList = K at *
  exact set_list 10 2 (by decide) (by omega) (by omega) (lt2 (by omega) (by omega))
/-- The two ports. -/
def portS (s : ByteArray) (a b : Int) : ByteArray := set (set s 0 2 a) 2 2 b
def portL (l : List UInt8) (a b : Nat) : List UInt8 := Oct.put (Oct.put l 0 2 a) 2 2 b
theorem portS_le (s : ByteArray) (a b : Int) : (portS s a b).size ≤ s.size := Nat.le_trans (set_le _ _ _ _) (set_le _ _ _ _)
theorem portS_list {s : ByteArray} (h : 4 ≤ s.size) {a b : Int} (ha : 0 ≤ a ∧ a ≤ 65535) (hb : 0 ≤ b ∧ b ≤ 65535) : (portS s a b).data.toList = portL s.data.toList a.toNat b.toNat := by
  have h1 : (set s 0 2 a).data.toList = Oct.put s.data.toList 0 2 a.toNat := set_list 0 2 (by decide) (by omega) ha.1 (lt2 ha.2 ha.1)
  have z1 : (set s 0 2 a).size = s.size := set_size' 0 2 (by decide) (by omega) ha.1 (lt2 ha.2 ha.1)
  have h2 : (portS s a b).data.toList = Oct.put (set s 0 2 a).data.toList 2 2 b.toNat := set_list 2 2 (by decide) (by omega) hb.1 (lt2 hb.2 hb.1)
  rw [h2, h1]
  rfl
theorem portL_eq {l : List UInt8} (h : 4 ≤ l.length) (a b : Nat) : portL l a b = Oct.be 2 a ++ (Oct.be 2 b ++ l.drop 4) := by
  unfold portL
  have e : l = l.take 2 ++ ((l.drop 2).take 2 ++ l.drop 4) := by rw [← take_step l 2 2, List.take_append_drop]
  have e2 : (l.take 2).length = 2 := by rw [List.length_take]; omega
  have e3 : ((l.drop 2).take 2).length = 2 := by rw [List.length_take, List.length_drop]; omega
  have p1 : Oct.put l 0 2 a = [] ++ (Oct.be 2 a ++ ((l.drop 2).take 2 ++ l.drop 4)) := put_mid l [] (l.take 2) _ 0 2 a (by rw [List.nil_append]; exact e) rfl e2
  rw [p1, List.nil_append]
  exact put_mid _ (Oct.be 2 a) ((l.drop 2).take 2) (l.drop 4) 2 2 b rfl (Oct.be_length _ _) e3
theorem portS_size {s : ByteArray} (h : 4 ≤ s.size) {a b : Int} (ha : 0 ≤ a ∧ a ≤ 65535) (hb : 0 ≤ b ∧ b ≤ 65535) : (portS s a b).size = s.size := by
  have hl := Oct.len_eq s
  rw [← Oct.len_eq, portS_list h ha hb, portL_eq (by omega)]
  simp only [List.length_append, Oct.be_length, List.length_drop]
  omega
end Go.Proofs.YtpjaajeojiaeiaaGreatDoor
