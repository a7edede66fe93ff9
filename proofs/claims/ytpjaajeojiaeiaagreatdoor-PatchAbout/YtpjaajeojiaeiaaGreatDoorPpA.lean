/- Numbers that are laid into texts, as lists of bytes (mathematics; nothing of the program). -/
import Derived.Test.YtpjaajeojiaeiaaGreatDoorPsB
import Derived.Test.YtpjaajeojiaeiaaGreatDoorPkRow
import Derived.Test.YtpjaajeojiaeiaaGreatDoorPkFirst
import Derived.Test.YtpjaajeojiaeiaaGreatDoorIcA
import Derived.Laws.EntriesVeiled
import Derived.Test.YtpjaajeojiaeiaaGreatDoorRg
import Derived.Test.YtpjaajeojiaeiaaGreatDoorIcC
import Derived.Test.YtpjaajeojiaeiaaGreatDoorIcD
namespace Go.Proofs.YtpjaajeojiaeiaaGreatDoor
open Go.RowKit

theorem put_fst (a b : List UInt8) (p k n : Nat) (h : p + k ≤ a.length) : Oct.put (a ++ b) p k n = Oct.put a p k n ++ b := by
 unfold Oct.put
 rw [List.take_append_of_le_length (by omega), List.drop_append_of_le_length h]
 simp only [List.append_assoc]
theorem put_snd (a b : List UInt8) (p q k n : Nat) (h : q = a.length + p) : Oct.put (a ++ b) q k n = a ++ Oct.put b p k n := by
 subst h
 unfold Oct.put
 rw [List.take_append, List.drop_append, List.take_of_length_le (by omega), List.drop_of_length_le (by omega)]
 rw [show a.length + p - a.length = p by omega, show a.length + p + k - a.length = p + k by omega]
 simp only [List.append_assoc, List.nil_append]
theorem put_all (b : List UInt8) (k n : Nat) (C : List UInt8) (h : b.length = k) : Oct.put (b ++ C) 0 k n = Oct.be k n ++ C := by
 unfold Oct.put
 rw [List.take_zero, List.nil_append, Nat.zero_add, ← h, List.drop_left]
theorem put_mid (l A B C : List UInt8) (p k n : Nat) (h : l = A ++ (B ++ C)) (hA : A.length = p) (hB : B.length = k) : Oct.put l p k n = A ++ (Oct.be k n ++ C) := by
 rw [h, put_snd A (B ++ C) 0 p k n (by omega), put_all B k n C hB]
/-- A number that is set, as a list. -/
theorem set_list {s : ByteArray} (p k : Nat) {n : Int} (hk : 1 ≤ k ∧ k ≤ 4) (hp : p + k ≤ s.size) (h0 : 0 ≤ n) (h1 : n.toNat < 256 ^ k) : (set s p k n).data.toList = Oct.put s.data.toList p k n.toNat := by
 have hb : setB s p k n = true := by
  unfold setB
  rw [Bool.and_eq_true]
  exact ⟨(gotB_iff _ _ _).2 ⟨⟨by omega, by omega⟩, by omega, by omega⟩, (laidB_iff _ _).2 ⟨⟨by omega, by omega⟩, h0, by simpa using h1⟩⟩
 unfold set
 rw [if_pos hb]
 rfl
theorem set_size' {s : ByteArray} (p k : Nat) {n : Int} (hk : 1 ≤ k ∧ k ≤ 4) (hp : p + k ≤ s.size) (h0 : 0 ≤ n) (h1 : n.toNat < 256 ^ k) : (set s p k n).size = s.size := by
 rw [← Oct.len_eq, set_list p k hk hp h0 h1, Oct.put_length _ _ _ _ (by rw [Oct.len_eq]; exact hp), Oct.len_eq]
theorem set_le (s : ByteArray) (p k n : Int) : (set s p k n).size ≤ s.size := by
 unfold set
 split
 ·rename_i h
  unfold setB at h
  rw [Bool.and_eq_true] at h
  obtain ⟨⟨h1, h2⟩, h3, h4⟩ := (gotB_iff _ _ _).1 h.1
  rw [Oct.put_size _ _ _ _ (by omega)]
  exact Nat.le_refl _
 ·exact Nat.zero_le _
theorem lt1 {n : Int} (h1 : n ≤ 255) (h0 : 0 ≤ n) : n.toNat < 256 ^ 1 := by show _ < 256; omega
theorem lt2 {n : Int} (h1 : n ≤ 65535) (h0 : 0 ≤ n) : n.toNat < 256 ^ 2 := by show _ < 65536; omega
theorem lt4 {n : Int} (h1 : n ≤ 4294967295) (h0 : 0 ≤ n) : n.toNat < 256 ^ 4 := by show _ < 4294967296; omega

/-- The parts of a header: what is ahead of its life, its life, its protocol, its check, its addresses, and what stands behind. -/
structure H20 (l A T P C S D O : List UInt8) : Prop where
 all : l = A ++ (T ++ (P ++ (C ++ (S ++ (D ++ O)))))
 a : A.length = 8
 t : T.length = 1
 p : P.length = 1
 c : C.length = 2
 s : S.length = 4
 d : D.length = 4
theorem take_step (l : List UInt8) (n k : Nat) : l.drop n = (l.drop n).take k ++ l.drop (n + k) := by rw [← List.drop_drop, List.take_append_drop]
theorem h20_of (l : List UInt8) (h : 20 ≤ l.length) : H20 l (l.take 8) ((l.drop 8).take 1) ((l.drop 9).take 1) ((l.drop 10).take 2) ((l.drop 12).take 4) ((l.drop 16).take 4) (l.drop 20) := by
 refine ⟨?_, ?_, ?_, ?_, ?_, ?_, ?_⟩
 ·rw [← take_step l 16 4, ← take_step l 12 4, ← take_step l 10 2, ← take_step l 9 1, ← take_step l 8 1, List.take_append_drop]
 all_goals (simp only [List.length_take, List.length_drop]; omega)
theorem H20.size {l A T P C S D O : List UInt8} (h : H20 l A T P C S D O) : l.length = 20 + O.length := by
 rw [h.all]; simp only [List.length_append, h.a, h.t, h.p, h.c, h.s, h.d]; omega
theorem H20.ttl {l A T P C S D O : List UInt8} (h : H20 l A T P C S D O) (n : Nat) : H20 (Oct.put l 8 1 n) A (Oct.be 1 n) P C S D O :=
 ⟨put_mid l A T _ 8 1 n h.all h.a h.t, h.a, Oct.be_length _ _, h.p, h.c, h.s, h.d⟩
theorem H20.check {l A T P C S D O : List UInt8} (h : H20 l A T P C S D O) (n : Nat) : H20 (Oct.put l 10 2 n) A T P (Oct.be 2 n) S D O := by
 refine ⟨?_, h.a, h.t, h.p, Oct.be_length _ _, h.s, h.d⟩
 rw [put_mid l (A ++ (T ++ P)) C (S ++ (D ++ O)) 10 2 n (by rw [h.all]; simp only [List.append_assoc]) (by simp only [List.length_append, h.a, h.t, h.p]) h.c]
 simp only [List.append_assoc]
theorem H20.src {l A T P C S D O : List UInt8} (h : H20 l A T P C S D O) (n : Nat) : H20 (Oct.put l 12 4 n) A T P C (Oct.be 4 n) D O := by
 refine ⟨?_, h.a, h.t, h.p, h.c, Oct.be_length _ _, h.d⟩
 rw [put_mid l (A ++ (T ++ (P ++ C))) S (D ++ O) 12 4 n (by rw [h.all]; simp only [List.append_assoc]) (by simp only [List.length_append, h.a, h.t, h.p, h.c]) h.s]
 simp only [List.append_assoc]
theorem H20.dst {l A T P C S D O : List UInt8} (h : H20 l A T P C S D O) (n : Nat) : H20 (Oct.put l 16 4 n) A T P C S (Oct.be 4 n) O := by
 refine ⟨?_, h.a, h.t, h.p, h.c, h.s, Oct.be_length _ _⟩
 rw [put_mid l (A ++ (T ++ (P ++ (C ++ S)))) D O 16 4 n (by rw [h.all]; simp only [List.append_assoc]) (by simp only [List.length_append, h.a, h.t, h.p, h.c, h.s]) h.d]
 simp only [List.append_assoc]
theorem H20.cut {l A T P C S D O : List UInt8} (h : H20 l A T P C S D O) (n : Nat) (hn : 20 ≤ n) : H20 (l.take n) A T P C S D (O.take (n - 20)) := by
 refine ⟨?_, h.a, h.t, h.p, h.c, h.s, h.d⟩
 have e : l = (A ++ (T ++ (P ++ (C ++ (S ++ D))))) ++ O := by rw [h.all]; simp only [List.append_assoc]
 have hl : (A ++ (T ++ (P ++ (C ++ (S ++ D))))).length = 20 := by simp only [List.length_append, h.a, h.t, h.p, h.c, h.s, h.d]
 rw [e, List.take_append, List.take_of_length_le (by omega), hl]
 simp only [List.append_assoc]
theorem H20.cut_drop {l A T P C S D O : List UInt8} (h : H20 l A T P C S D O) (n : Nat) (hn : 20 ≤ n) : l.drop n = O.drop (n - 20) := by
 have e : l = (A ++ (T ++ (P ++ (C ++ (S ++ D))))) ++ O := by rw [h.all]; simp only [List.append_assoc]
 have hl : (A ++ (T ++ (P ++ (C ++ (S ++ D))))).length = 20 := by simp only [List.length_append, h.a, h.t, h.p, h.c, h.s, h.d]
 rw [e, List.drop_append, List.drop_of_length_le (by omega), hl, List.nil_append]
/-- The addresses of a header, in a list. -/
def addrL (l : List UInt8) (s d : Nat) : List UInt8 := Oct.put (Oct.put l 12 4 s) 16 4 d
theorem H20.addr {l A T P C S D O : List UInt8} (h : H20 l A T P C S D O) (s d : Nat) : H20 (addrL l s d) A T P C (Oct.be 4 s) (Oct.be 4 d) O := (h.src s).dst d
/-- A header with another life and other addresses, with 0 for its check, and with its check. -/
def outL0 (l : List UInt8) (t s d : Nat) : List UInt8 := Oct.put (Oct.put (addrL l s d) 8 1 t) 10 2 0
def outL (l : List UInt8) (t s d : Nat) : List UInt8 := Oct.put (outL0 l t s d) 10 2 (65535 - Ck.sum (outL0 l t s d)).toNat
theorem H20.out0 {l A T P C S D O : List UInt8} (h : H20 l A T P C S D O) (t s d : Nat) : H20 (outL0 l t s d) A (Oct.be 1 t) P (Oct.be 2 0) (Oct.be 4 s) (Oct.be 4 d) O := ((h.addr s d).ttl t).check 0
theorem H20.out {l A T P C S D O : List UInt8} (h : H20 l A T P C S D O) (t s d : Nat) : H20 (outL l t s d) A (Oct.be 1 t) P (Oct.be 2 (65535 - Ck.sum (A ++ (Oct.be 1 t ++ (P ++ (Oct.be 2 0 ++ (Oct.be 4 s ++ (Oct.be 4 d ++ O))))))).toNat) (Oct.be 4 s) (Oct.be 4 d) O := by
 have g := h.out0 t s d
 unfold outL
 rw [g.all]
 have := g.check (65535 - Ck.sum (A ++ (Oct.be 1 t ++ (P ++ (Oct.be 2 0 ++ (Oct.be 4 s ++ (Oct.be 4 d ++ O))))))).toNat
 rw [g.all] at this
 exact this
/-- As the reference does it: in the whole packet, in another order. -/
def routL0 (l : List UInt8) (t s d : Nat) : List UInt8 := Oct.put (addrL (Oct.put l 8 1 t) s d) 10 2 0
def routL (l : List UInt8) (n t s d : Nat) : List UInt8 := Oct.put (routL0 l t s d) 10 2 (65535 - Ck.sum ((routL0 l t s d).take n)).toNat
theorem routL_eq (l : List UInt8) (n t s d : Nat) (hn : 20 ≤ n) (hl : n ≤ l.length) : routL l n t s d = outL (l.take n) t s d ++ l.drop n := by
 have h := h20_of l (by omega)
 generalize l.take 8 = A at h
 generalize (l.drop 8).take 1 = T at h
 generalize (l.drop 9).take 1 = P at h
 generalize (l.drop 10).take 2 = C at h
 generalize (l.drop 12).take 4 = S at h
 generalize (l.drop 16).take 4 = D at h
 generalize l.drop 20 = O at h
 have g : H20 (routL0 l t s d) A (Oct.be 1 t) P (Oct.be 2 0) (Oct.be 4 s) (Oct.be 4 d) O := ((h.ttl t).addr s d).check 0
 have gc := (g.cut n hn).all
 have hf := (h.cut n hn).out t s d
 unfold routL
 rw [gc, (g.check _).all, hf.all, h.cut_drop n hn]
 simp only [List.append_assoc, List.take_append_drop]

/-- The addresses, the outer header, the ports, in a text. -/
def addrS (s : ByteArray) (src dst : Int) : ByteArray := set (set s 12 4 src) 16 4 dst
theorem addrS_list {s : ByteArray} (h : 20 ≤ s.size) {src dst : Int} (hs : Ps.U32 src) (hd : Ps.U32 dst) : (addrS s src dst).data.toList = addrL s.data.toList src.toNat dst.toNat := by
 have h1 : (set s 12 4 src).data.toList = Oct.put s.data.toList 12 4 src.toNat := set_list 12 4 (by decide) (by omega) hs.1 (lt4 hs.2 hs.1)
 have z1 : (set s 12 4 src).size = s.size := set_size' 12 4 (by decide) (by omega) hs.1 (lt4 hs.2 hs.1)
 have h2 : (set (set s 12 4 src) 16 4 dst).data.toList = Oct.put (set s 12 4 src).data.toList 16 4 dst.toNat := set_list 16 4 (by decide) (by omega) hd.1 (lt4 hd.2 hd.1)
 unfold addrS addrL
 rw [h2, h1]
theorem addrS_size {s : ByteArray} (h : 20 ≤ s.size) {src dst : Int} (hs : Ps.U32 src) (hd : Ps.U32 dst) : (addrS s src dst).size = s.size := by
 rw [← Oct.len_eq, addrS_list h hs hd, ← Oct.len_eq]
 unfold addrL
 have := Oct.len_eq s
 rw [Oct.put_length _ _ _ _ (by rw [Oct.put_length _ _ _ _ (by omega)]; omega), Oct.put_length _ _ _ _ (by omega)]
theorem addrS_le (s : ByteArray) (src dst : Int) : (addrS s src dst).size ≤ s.size := Nat.le_trans (set_le _ _ _ _) (set_le _ _ _ _)
def out0S (s : ByteArray) (ttl src dst : Int) : ByteArray := set (set (addrS s src dst) 8 1 ttl) 10 2 0
def outerS (s : ByteArray) (ttl src dst : Int) : ByteArray := set (out0S s ttl src dst) 10 2 (65535 - Ck.sum (out0S s ttl src dst).data.toList)
theorem out0S_le (s : ByteArray) (ttl src dst : Int) : (out0S s ttl src dst).size ≤ s.size := Nat.le_trans (set_le _ _ _ _) (Nat.le_trans (set_le _ _ _ _) (addrS_le _ _ _))
theorem outerS_le (s : ByteArray) (ttl src dst : Int) : (outerS s ttl src dst).size ≤ s.size := Nat.le_trans (set_le _ _ _ _) (out0S_le _ _ _ _)
theorem outerS_list {s : ByteArray} (h : 20 ≤ s.size) {ttl src dst : Int} (ht : 0 ≤ ttl ∧ ttl ≤ 255) (hs : Ps.U32 src) (hd : Ps.U32 dst) : (outerS s ttl src dst).data.toList = outL s.data.toList ttl.toNat src.toNat dst.toNat := by
 have z0 := addrS_size h hs hd
 have l0 := addrS_list h hs hd
 unfold outL outL0 outerS out0S
 rw [← l0]
 generalize addrS s src dst = X at *
 have h1 : (set X 8 1 ttl).data.toList = Oct.put X.data.toList 8 1 ttl.toNat := set_list 8 1 (by decide) (by omega) ht.1 (lt1 ht.2 ht.1)
 have z1 : (set X 8 1 ttl).size = X.size := set_size' 8 1 (by decide) (by omega) ht.1 (lt1 ht.2 ht.1)
 rw [← h1]
 generalize set X 8 1 ttl = Y at *
 have h2 : (set Y 10 2 0).data.toList = Oct.put Y.data.toList 10 2 0 := set_list 10 2 (by decide) (by omega) (Int.le_refl 0) (by decide)
 have z2 : (set Y 10 2 0).size = Y.size := set_size' 10 2 (by decide) (by omega) (Int.le_refl 0) (by decide)
 rw [← h2]
 generalize set Y 10 2 0 = Z at *
 have c0 := Ck.sum_lo Z.data.toList
 have c1 := Ck.sum_hi Z.data.toList
 generalize Ck.sum Z.data.toList = K at *
 exact set_list 10 2 (by decide) (by omega) (by omega) (lt2 (by omega) (by omega))
/-- The two ports. -/
def portS (s : ByteArray) (a b : Int) : ByteArray := set (set s 0 2 a) 2 2 b
def portL (l : List UInt8) (a b : Nat) : List UInt8 := Oct.put (Oct.put l 0 2 a) 2 2 b
theorem portS_le (s : ByteArray) (a b : Int) : (portS s a b).size ≤ s.size := Nat.le_trans (set_le _ _ _ _) (set_le _ _ _ _)
theorem portS_list {s : ByteArray} (h : 4 ≤ s.size) {a b : Int} (ha : 0 ≤ a ∧ a ≤ 65535) (hb : 0 ≤ b ∧ b ≤ 65535) : (portS s a b).data.toList = portL s.data.toList a.toNat b.toNat := by
 have h1 : (set s 0 2 a).data.toList = Oct.put s.data.toList 0 2 a.toNat := set_list 0 2 (by decide) (by omega) ha.1 (lt2 ha.2 ha.1)
 have z1 : (set s 0 2 a).size = s.size := set_size' 0 2 (by decide) (by omega) ha.1 (lt2 ha.2 ha.1)
 have h2 : (portS s a b).data.toList = Oct.put (set s 0 2 a).data.toList 2 2 b.toNat := set_list 2 2 (by decide) (by omega) hb.1 (lt2 hb.2 hb.1)
 rw [h2, h1]
 rfl
theorem portL_eq {l : List UInt8} (h : 4 ≤ l.length) (a b : Nat) : portL l a b = Oct.be 2 a ++ (Oct.be 2 b ++ l.drop 4) := by
 unfold portL
 have e : l = l.take 2 ++ ((l.drop 2).take 2 ++ l.drop 4) := by rw [← take_step l 2 2, List.take_append_drop]
 have e2 : (l.take 2).length = 2 := by rw [List.length_take]; omega
 have e3 : ((l.drop 2).take 2).length = 2 := by rw [List.length_take, List.length_drop]; omega
 have p1 : Oct.put l 0 2 a = [] ++ (Oct.be 2 a ++ ((l.drop 2).take 2 ++ l.drop 4)) := put_mid l [] (l.take 2) _ 0 2 a (by rw [List.nil_append]; exact e) rfl e2
 rw [p1, List.nil_append]
 exact put_mid _ (Oct.be 2 a) ((l.drop 2).take 2) (l.drop 4) 2 2 b rfl (Oct.be_length _ _) e3
theorem portS_size {s : ByteArray} (h : 4 ≤ s.size) {a b : Int} (ha : 0 ≤ a ∧ a ≤ 65535) (hb : 0 ≤ b ∧ b ≤ 65535) : (portS s a b).size = s.size := by
 have hl := Oct.len_eq s
 rw [← Oct.len_eq, portS_list h ha hb, portL_eq (by omega)]
 simp only [List.length_append, Oct.be_length, List.length_drop]
 omega
end Go.Proofs.YtpjaajeojiaeiaaGreatDoor

/- What with, withAddresses, withPorts, isPort and checkless of package patch do. -/
namespace Go.Proofs.YtpjaajeojiaeiaaGreatDoor
open Go.ChangeShapes Go.WideShapes Go.ChangeAt Go.RowKit

/-- A text with some numbers in their places. -/
def wth (s : ByteArray) (zs : Nat → Int × Int × Int) : Nat → ByteArray
 | 0 => s
 | k + 1 => set (wth s zs k) (zs k).1 (zs k).2.1 (zs k).2.2
theorem wth_le (s : ByteArray) (zs : Nat → Int × Int × Int) : ∀ k, (wth s zs k).size ≤ s.size
 | 0 => Nat.le_refl _
 | k + 1 => Nat.le_trans (set_le _ _ _ _) (wth_le s zs k)
/-- The cells of such a list. -/
def Nums (W : World) (g n : Nat) (zs : Nat → Int × Int × Int) : Prop := ∀ k, k < n → W.cell? ⟨g, k * 3, none⟩ = some (.int .i64 (zs k).1) ∧ W.cell? ⟨g, k * 3 + 1, none⟩ = some (.int .i64 (zs k).2.1) ∧ W.cell? ⟨g, k * 3 + 2, none⟩ = some (.int .i64 (zs k).2.2)
theorem Nums.on {W W' : World} {g n : Nat} {zs : Nat → Int × Int × Int} (h : Nums W g n zs) (hb : Below W.heap.size W W') : Nums W' g n zs := fun k hk => by
 obtain ⟨a, b, c⟩ := h k hk
 exact ⟨(hb.cell (block_lt_of_cell a)).trans a, (hb.cell (block_lt_of_cell b)).trans b, (hb.cell (block_lt_of_cell c)).trans c⟩
theorem alloc_on' (W : World) (o : Obj) : Below W.heap.size W (W.alloc o) := (Below.refl _ _).alloc (Nat.le_refl _) _

set_option maxHeartbeats 1000000 in
set_option maxRecDepth 100000 in
theorem with_any (s : ByteArray) (g n : Nat) (zs : Nat → Int × Int × Int) (w : World) (hs : s.size ≤ 281474976710656) (hn : n ≤ 100) (hz : Nums w g n zs) :
  Calls Tryz.prog 50 #[.string s, .slice (some ⟨g, 0, none⟩) n n] w fun e w' => e = .returned (.string (wth s zs n)) ∧ Below w.heap.size w w' := by
 have HZ := hide hz
 clear hz
 go_enter Tryz.func50, Tryz.ntmps50
 go_wp2
 go_loopw [0, 9] (fun t i W => ∃ k : Nat, k ≤ n ∧ i = .int .i64 k ∧ t = .string (wth s zs k) ∧ Hid (Below w.heap.size w W)) (fun _ i _ => n - (intOf i).toNat)
 case atStart => exact ⟨0, Nat.zero_le _, rfl, rfl, Below.refl _ _⟩
 case round =>
  obtain ⟨k, hk, rfl, rfl, hq⟩ := hrel
  by_cases hkn : k < n
  ·obtain ⟨c0, c1, c2⟩ := (unhide HZ).on (unhide hq) k hkn
   have hle := wth_le s zs k
   have HS : Hid (set (wth s zs k) (zs k).1 (zs k).2.1 (zs k).2.2 = wth s zs (k + 1)) := rfl
   have HG := hide (fun u => set_any (wth s zs k) (zs k).1 (zs k).2.1 (zs k).2.2 u (by unfold maxLen; omega))
   rw [HS.out] at HG
   generalize wth s zs k = S at *
   generalize hS' : wth s zs (k + 1) = S' at *
   have HS' := hide hS'
   clear hS'
   generalize setB S (zs k).1 (zs k).2.1 (zs k).2.2 = B at *
   generalize (zs k).1 = z0 at *
   generalize (zs k).2.1 = z1 at *
   generalize (zs k).2.2 = z2 at *
   go_wp2_with fail
   refine (unhide HG _).mono ?_
   rintro e w1 ⟨rfl, hb⟩
   have HB := hide (Below.then (Below.then (unhide hq) (alloc_on' _ _)) hb)
   clear hb hq c0 c1 c2
   go_wp2_with fail
   go_roundw
   case rel => exact ⟨k + 1, by omega, by go_num, by rw [unhide HS'], HB⟩
   case measure => simp [intOf]; omega
  ·have hk2 : k = n := by omega
   subst hk2
   go_wp2_with fail
   go_ret
   exact ⟨rfl, unhide hq⟩

theorem nums1 {W : World} {g : Nat} {a b c : Int} (r : Row W g [.int .i64 a, .int .i64 b, .int .i64 c]) : Nums W g 1 (fun _ => (a, b, c)) := fun k hk => by
 have : k = 0 := by omega
 subst this
 exact ⟨r.cell 0 _ rfl, r.cell 1 _ rfl, r.cell 2 _ rfl⟩
theorem nums2 {W : World} {g : Nat} {a b c d e f : Int} (r : Row W g [.int .i64 a, .int .i64 b, .int .i64 c, .int .i64 d, .int .i64 e, .int .i64 f]) : Nums W g 2 (fun k => if k = 0 then (a, b, c) else (d, e, f)) := fun k hk => by
 have : k = 0 ∨ k = 1 := by omega
 rcases this with rfl | rfl
 ·exact ⟨r.cell 0 _ rfl, r.cell 1 _ rfl, r.cell 2 _ rfl⟩
 ·exact ⟨r.cell 3 _ rfl, r.cell 4 _ rfl, r.cell 5 _ rfl⟩
theorem ret_str' {a b : ByteArray} (h : a = b) : Ending.returned (.string a) = .returned (.string b) := by rw [h]

set_option maxHeartbeats 1000000 in
set_option maxRecDepth 100000 in
theorem withAddresses_any (s : ByteArray) (src dst : Int) (w : World) (hs : s.size ≤ 281474976710656) (hS : Ps.U32 src) (hD : Ps.U32 dst) :
  Calls Tryz.prog 49 #[.string s, .int .u32 src, .int .u32 dst] w fun e w' => e = .returned (.string (addrS s src dst)) ∧ Below w.heap.size w w' := by
 have k1 : IntKind.i64.wrap src = src := Oct.wraps_i64 _ hS.1 (by have := hS.2; omega)
 have k2 : IntKind.i64.wrap dst = dst := Oct.wraps_i64 _ hD.1 (by have := hD.2; omega)
 have b0 := alloc_on' w (.cells #[.int .i64 12, .int .i64 4, .int .i64 src, .int .i64 16, .int .i64 4, .int .i64 dst] 96)
 have HW := hide (with_any s w.heap.size 2 _ (w.alloc (.cells #[.int .i64 12, .int .i64 4, .int .i64 src, .int .i64 16, .int .i64 4, .int .i64 dst] 96)) hs (by decide) (nums2 (row_new w [.int .i64 12, .int .i64 4, .int .i64 src, .int .i64 16, .int .i64 4, .int .i64 dst] 96)))
 have HB := hide b0
 clear b0
 go_enter Tryz.func49, Tryz.ntmps49
 go_wp2_with fail
 refine (unhide HW).mono ?_
 rintro e w1 ⟨rfl, hb⟩
 have HB2 := hide (Below.then (unhide HB) hb)
 clear hb
 go_wp2_with fail
 go_ret
 exact ⟨rfl, unhide HB2⟩

/-- Ends. -/
structure En where
 src : Int
 dst : Int
 sport : Int
 dport : Int
abbrev En.val (t : En) : Value := .agg #[.int .u32 t.src, .int .u32 t.dst, .int .i64 t.sport, .int .i64 t.dport]
abbrev En.cells (t : En) : List Value := [.int .u32 t.src, .int .u32 t.dst, .int .i64 t.sport, .int .i64 t.dport]

set_option maxHeartbeats 1000000 in
set_option maxRecDepth 100000 in
theorem withPorts_any (s : ByteArray) (t : En) (w : World) (hs : s.size ≤ 281474976710656) :
  Calls Tryz.prog 52 #[.string s, t.val] w fun e w' => e = .returned (.string (portS s t.sport t.dport)) ∧ Below w.heap.size w w' := by
 have r0 := row_new w t.cells 27
 have b0 := alloc_on' w (.cells t.cells.toArray 27)
 have b1 := Below.then b0 (alloc_on' _ (.cells #[.int .i64 0, .int .i64 2, .int .i64 t.sport, .int .i64 2, .int .i64 2, .int .i64 t.dport] 96))
 have hz : (w.alloc (.cells t.cells.toArray 27)).heap.size = w.heap.size + 1 := by simp
 have r1 := row_new (w.alloc (.cells t.cells.toArray 27)) [.int .i64 0, .int .i64 2, .int .i64 t.sport, .int .i64 2, .int .i64 2, .int .i64 t.dport] 96
 rw [hz] at r1
 have HW := hide (with_any s (w.heap.size + 1) 2 _ _ hs (by decide) (nums2 r1))
 have HB := hide b1
 clear b0 b1 r0 r1 hz
 go_enter Tryz.func52, Tryz.ntmps52
 go_wp2_with fail
 refine (unhide HW).mono ?_
 rintro e w1 ⟨rfl, hb⟩
 have HB2 := hide (Below.then (unhide HB) hb)
 clear hb
 go_wp2_with fail
 go_ret
 exact ⟨rfl, unhide HB2⟩

/-- Is it a port? -/
def prtB (n : Int) : Bool := laidB 2 n
theorem prtB_iff (n : Int) : prtB n = true ↔ 0 ≤ n ∧ n ≤ 65535 := by
 unfold prtB
 rw [laidB_iff]
 unfold Room
 constructor
 ·rintro ⟨-, h1, h2⟩
  have : n.toNat < 65536 := h2
  omega
 ·intro h
  exact ⟨by decide, h.1, by show _ < 65536; omega⟩
set_option maxHeartbeats 1000000 in
theorem isPort_any (n : Int) (w : World) :
  Calls Tryz.prog 48 #[.int .i64 n] w fun e w' => e = .returned (.bool (prtB n)) ∧ Below w.heap.size w w' := by
 have HP := hide (put_any 2 n)
 have HE : Hid (laidB 2 n = prtB n) := rfl
 rw [HE.out] at HP
 generalize laid 2 n = X at *
 generalize prtB n = B at *
 go_enter Tryz.func48, Tryz.ntmps48
 go_wp2_with fail
 refine (unhide HP _).mono ?_
 rintro e w1 ⟨rfl, hb⟩
 have HB := hide hb
 clear hb
 go_wp2_with fail
 go_ret
 exact ⟨rfl, unhide HB⟩

set_option maxHeartbeats 1000000 in
theorem checkless_any (s : ByteArray) (w : World) (hs : s.size ≤ 281474976710656) :
  Calls Tryz.prog 53 #[.string s] w fun e w' => e = .returned (.bool (got s 6 2 == 0)) ∧ Below w.heap.size w w' := by
 have HP := hide (Ps.place_any 17 w (by decide))
 have e1 : Ps.plc 17 = 6 := rfl
 have e2 : Ps.plcB 17 = true := rfl
 rw [e1, e2] at HP
 have HG := hide (fun u => get_any s 6 2 u (by unfold maxLen; omega))
 generalize got s 6 2 = G at *
 generalize gotB s 6 2 = GB at *
 clear e1 e2
 go_enter Tryz.func53, Tryz.ntmps53
 go_wp2_with fail
 refine (unhide HP).mono ?_
 rintro e w1 ⟨rfl, hb⟩
 have HB := hide hb
 clear hb
 go_wp2_with fail
 refine (unhide HG _).mono ?_
 rintro e w2 ⟨rfl, rfl⟩
 go_wp2_with fail
 go_ret
 exact ⟨rfl, unhide HB⟩
end Go.Proofs.YtpjaajeojiaeiaaGreatDoor

/- The closures by which patch goes on with a check: what each step does, whatever it is made of. -/
namespace Go.Proofs.YtpjaajeojiaeiaaGreatDoor
open Go.ChangeShapes Go.WideShapes Go.ChangeAt Go.RowKit

/-- The function k over what C captured goes on with a check by φ, in W and in each world above it. -/
structure Step (W : World) (k : FuncId) (C : Array Value) (φ : Int → Int) : Prop where
 ent : ∀ args W, (callFunc k args).run Tryz.prog W = .ok (.enter k args) W
 rng : ∀ c, 0 ≤ c → c ≤ 65535 → 0 ≤ φ c ∧ φ c ≤ 65535
 call : ∀ W', Below W.heap.size W W' → ∀ c, 0 ≤ c → c ≤ 65535 → Calls Tryz.prog k (#[.int .u16 c] ++ C) W' fun e w' => e = .returned (.int .u16 (φ c)) ∧ Below W'.heap.size W' w'
theorem Step.on {W W' : World} {k : FuncId} {C : Array Value} {φ : Int → Int} (h : Step W k C φ) (hb : Below W.heap.size W W') : Step W' k C φ := ⟨h.ent, h.rng, fun V hv => h.call V (Below.then hb hv)⟩
theorem ret_u16 {a b : Int} (h : a = b) : Ending.returned (.int .u16 a) = .returned (.int .u16 b) := by rw [h]
def IsStep (u : World) (v : Value) (φ : Int → Int) : Prop := ∃ k C, v = .func (.func k) #[] C ∧ Step u k C φ
theorem IsStep.on {W W' : World} {v : Value} {φ : Int → Int} (h : IsStep W v φ) (hb : Below W.heap.size W W') : IsStep W' v φ := by
 obtain ⟨k, C, e, s⟩ := h
 exact ⟨k, C, e, s.on hb⟩
def Steps (u : World) (g n : Nat) (φ : Nat → Int → Int) : Prop := ∀ i, i < n → ∃ v, u.cell? ⟨g, i, none⟩ = some v ∧ IsStep u v (φ i)
theorem Steps.on {W W' : World} {g n : Nat} {φ : Nat → Int → Int} (h : Steps W g n φ) (hb : Below W.heap.size W W') : Steps W' g n φ := fun i hi => by
 obtain ⟨v, hc, hs⟩ := h i hi
 exact ⟨v, (hb.cell (block_lt_of_cell hc)).trans hc, hs.on hb⟩
/-- One step behind the other. -/
def runN (φ : Nat → Int → Int) : Nat → Int → Int
 | 0, c => c
 | k + 1, c => φ k (runN φ k c)
theorem runN_rng {u : World} {g n : Nat} {φ : Nat → Int → Int} (h : Steps u g n φ) {c : Int} (h0 : 0 ≤ c) (h1 : c ≤ 65535) : ∀ k, k ≤ n → 0 ≤ runN φ k c ∧ runN φ k c ≤ 65535
 | 0, _ => ⟨h0, h1⟩
 | k + 1, hk => by
  have ih := runN_rng h h0 h1 k (by omega)
  obtain ⟨v, -, kk, C, -, s⟩ := h k (by omega)
  exact s.rng _ ih.1 ih.2

set_option maxHeartbeats 1000000 in
set_option maxRecDepth 100000 in
theorem chain1_any (b g n : Nat) (φ : Nat → Int → Int) (c : Int) (W : World) (hn : n ≤ 100) (h0 : 0 ≤ c) (h1 : c ≤ 65535) (hr : Row W b [.slice (some ⟨g, 0, none⟩) n n]) (hs : Steps W g n φ) :
  Calls Tryz.prog 130 #[.int .u16 c, .pointer (some ⟨b, 0, none⟩)] W fun e w' => e = .returned (.int .u16 (runN φ n c)) ∧ Below W.heap.size W w' := by
 have HS := hide hs
 have HN := hide (fun k hk => runN_rng hs h0 h1 k hk)
 have cb := hr.cell 0 _ rfl
 clear hs hr h0 h1
 go_enter Tryz.func130, Tryz.ntmps130
 go_wp2
 clear cb
 go_loopw [0, 8] (fun t i V => ∃ k : Nat, k ≤ n ∧ i = .int .i64 k ∧ t = .int .u16 (runN φ k c) ∧ Hid (Below W.heap.size W V)) (fun _ i _ => n - (intOf i).toNat)
 case atStart => exact ⟨0, Nat.zero_le _, rfl, rfl, Below.refl _ _⟩
 case round =>
  obtain ⟨k, hk, rfl, rfl, hq⟩ := hrel
  by_cases hkn : k < n
  ·obtain ⟨v, hc, kk, C, rfl, hst⟩ := (unhide HS).on (unhide hq) k hkn
   obtain ⟨x0, x1⟩ := unhide HN k hk
   have he := hst.ent
   have HE : Hid (φ k (runN φ k c) = runN φ (k + 1) c) := rfl
   have HC := hide (hst.call _ (Below.refl _ _) _ x0 x1)
   rw [HE.out] at HC
   clear hst
   generalize hx : runN φ k c = x at *
   generalize hy : runN φ (k + 1) c = y at *
   have HY := hide hy
   clear hy hx
   go_wp2_with fail
   refine (unhide HC).mono ?_
   rintro e w1 ⟨rfl, hb⟩
   have HB := hide (Below.then (unhide hq) hb)
   clear hb hq hc
   go_wp2_with fail
   go_roundw
   case rel => exact ⟨k + 1, by omega, by go_num, by rw [unhide HY], HB⟩
   case measure => simp [intOf]; omega
  ·have hk2 : k = n := by omega
   subst hk2
   go_wp2_with fail
   go_ret
   exact ⟨rfl, unhide hq⟩

set_option maxHeartbeats 1000000 in
set_option maxRecDepth 100000 in
theorem chain_any (g n : Nat) (φ : Nat → Int → Int) (w : World) (hn : n ≤ 100) (hs : Steps w g n φ) :
  Calls Tryz.prog 94 #[.slice (some ⟨g, 0, none⟩) n n] w fun e w' => ∃ v, e = .returned v ∧ IsStep w' v (runN φ n) ∧ Below w.heap.size w w' := by
 have b0 := alloc_on' w (.cells #[.slice (some ⟨g, 0, none⟩) n n] 169)
 have r0 := row_new w [.slice (some ⟨g, 0, none⟩) n n] 169
 have hI : Hid (IsStep (w.alloc (.cells #[.slice (some ⟨g, 0, none⟩) n n] 169)) (.func (.func 130) #[] #[.pointer (some ⟨w.heap.size, 0, none⟩)]) (runN φ n)) := by
  refine ⟨_, _, rfl, Tryz.call130, fun c h0 h1 => runN_rng hs h0 h1 n (Nat.le_refl _), fun W' hb c h0 h1 => ?_⟩
  exact chain1_any w.heap.size g n φ c W' hn h0 h1 (r0.on' hb) ((hs.on b0).on hb)
 have HB := hide b0
 clear b0 r0 hs
 go_enter Tryz.func94, Tryz.ntmps94
 go_wp2
 go_ret
 exact ⟨_, rfl, unhide hI, unhide HB⟩

/-- The step from an address to another one, and from a port to another one. -/
def adrF (o n : Int) (c : Int) : Int := Ck.upd (Ck.upd c (o / 65536) (n / 65536)) (o % 65536) (n % 65536)
def prtF (o n : Int) (c : Int) : Int := Ck.upd c o n
theorem adrF_rng (o n c : Int) : 0 ≤ adrF o n c ∧ adrF o n c ≤ 65535 := ⟨Ck.upd_lo _ _ _, Ck.upd_hi _ _ _⟩
theorem prtF_rng (o n c : Int) : 0 ≤ prtF o n c ∧ prtF o n c ≤ 65535 := ⟨Ck.upd_lo _ _ _, Ck.upd_hi _ _ _⟩

set_option maxHeartbeats 1000000 in
theorem address1_any (b1 b2 : Nat) (o n c : Int) (W : World) (hO : Ps.U32 o) (hN : Ps.U32 n) (h0 : 0 ≤ c) (h1 : c ≤ 65535) (r1 : Row W b1 [.int .u32 o]) (r2 : Row W b2 [.int .u32 n]) :
  Calls Tryz.prog 131 #[.int .u16 c, .pointer (some ⟨b1, 0, none⟩), .pointer (some ⟨b2, 0, none⟩)] W fun e w' => e = .returned (.int .u16 (adrF o n c)) ∧ Below W.heap.size W w' := by
 have HU := hide (fun u => update32_any c o n u h0 h1 hO.1 hO.2 hN.1 hN.2)
 have c1 := r1.cell 0 _ rfl
 have c2 := r2.cell 0 _ rfl
 clear r1 r2
 have HE : Hid (Ck.upd (Ck.upd c (o / 65536) (n / 65536)) (o % 65536) (n % 65536) = adrF o n c) := rfl
 rw [HE.out] at HU
 generalize adrF o n c = X at *
 clear HE h0 h1 hO hN
 go_enter Tryz.func131, Tryz.ntmps131
 go_wp2_with fail
 refine (unhide HU _).mono ?_
 rintro e w1 ⟨rfl, hb⟩
 have HB := hide hb
 clear hb
 go_wp2_with fail
 go_ret
 exact ⟨rfl, unhide HB⟩

set_option maxHeartbeats 1000000 in
set_option maxRecDepth 100000 in
theorem address_any (o n : Int) (w : World) (hO : Ps.U32 o) (hN : Ps.U32 n) :
  Calls Tryz.prog 95 #[.int .u32 o, .int .u32 n] w fun e w' => ∃ v, e = .returned v ∧ IsStep w' v (adrF o n) ∧ Below w.heap.size w w' := by
 have b0 := alloc_on' w (.cells #[.int .u32 o] 22)
 have b1 := alloc_on' (w.alloc (.cells #[.int .u32 o] 22)) (.cells #[.int .u32 n] 22)
 have r0 := (row_new w [.int .u32 o] 22).on' b1
 have r1 := row_new (w.alloc (.cells #[.int .u32 o] 22)) [.int .u32 n] 22
 have hz : (w.alloc (.cells #[.int .u32 o] 22)).heap.size = w.heap.size + 1 := by simp
 rw [hz] at r1
 have hI : Hid (IsStep ((w.alloc (.cells #[.int .u32 o] 22)).alloc (.cells #[.int .u32 n] 22)) (.func (.func 131) #[] #[.pointer (some ⟨w.heap.size, 0, none⟩), .pointer (some ⟨w.heap.size + 1, 0, none⟩)]) (adrF o n)) := by
  refine ⟨_, _, rfl, Tryz.call131, fun c _ _ => adrF_rng o n c, fun W' hb c h0 h1 => ?_⟩
  exact address1_any w.heap.size (w.heap.size + 1) o n c W' hO hN h0 h1 (r0.on' hb) (r1.on' hb)
 have HB := hide (Below.then b0 b1)
 clear b0 b1 r0 r1 hz hO hN
 go_enter Tryz.func95, Tryz.ntmps95
 go_wp2
 go_ret
 exact ⟨_, rfl, unhide hI, unhide HB⟩

set_option maxHeartbeats 1000000 in
theorem port1_any (b1 b2 : Nat) (o n c : Int) (W : World) (hO : 0 ≤ o ∧ o ≤ 65535) (hN : 0 ≤ n ∧ n ≤ 65535) (h0 : 0 ≤ c) (h1 : c ≤ 65535) (r1 : Row W b1 [.int .i64 o]) (r2 : Row W b2 [.int .i64 n]) :
  Calls Tryz.prog 133 #[.int .u16 c, .pointer (some ⟨b1, 0, none⟩), .pointer (some ⟨b2, 0, none⟩)] W fun e w' => e = .returned (.int .u16 (prtF o n c)) ∧ Below W.heap.size W w' := by
 have HU := hide (fun u => update_any c o n u h0 h1 hO.1 hO.2 hN.1 hN.2)
 have c1 := r1.cell 0 _ rfl
 have c2 := r2.cell 0 _ rfl
 have k1 : IntKind.u16.wrap o = o := by rw [Ck.wrap_u16]; omega
 have k2 : IntKind.u16.wrap n = n := by rw [Ck.wrap_u16]; omega
 clear r1 r2
 have HE : Hid (Ck.upd c o n = prtF o n c) := rfl
 rw [HE.out] at HU
 generalize prtF o n c = X at *
 clear HE h0 h1 hO hN
 go_enter Tryz.func133, Tryz.ntmps133
 go_wp2_with fail
 refine (unhide HU _).mono ?_
 rintro e w1 ⟨rfl, hb⟩
 have HB := hide hb
 clear hb
 go_wp2_with fail
 go_ret
 exact ⟨rfl, unhide HB⟩

set_option maxHeartbeats 1000000 in
set_option maxRecDepth 100000 in
theorem port_any (o n : Int) (w : World) (hO : 0 ≤ o ∧ o ≤ 65535) (hN : 0 ≤ n ∧ n ≤ 65535) :
  Calls Tryz.prog 96 #[.int .i64 o, .int .i64 n] w fun e w' => ∃ v, e = .returned v ∧ IsStep w' v (prtF o n) ∧ Below w.heap.size w w' := by
 have b0 := alloc_on' w (.cells #[.int .i64 o] 3)
 have b1 := alloc_on' (w.alloc (.cells #[.int .i64 o] 3)) (.cells #[.int .i64 n] 3)
 have r0 := (row_new w [.int .i64 o] 3).on' b1
 have r1 := row_new (w.alloc (.cells #[.int .i64 o] 3)) [.int .i64 n] 3
 have hz : (w.alloc (.cells #[.int .i64 o] 3)).heap.size = w.heap.size + 1 := by simp
 rw [hz] at r1
 have hI : Hid (IsStep ((w.alloc (.cells #[.int .i64 o] 3)).alloc (.cells #[.int .i64 n] 3)) (.func (.func 133) #[] #[.pointer (some ⟨w.heap.size, 0, none⟩), .pointer (some ⟨w.heap.size + 1, 0, none⟩)]) (prtF o n)) := by
  refine ⟨_, _, rfl, Tryz.call133, fun c _ _ => prtF_rng o n c, fun W' hb c h0 h1 => ?_⟩
  exact port1_any w.heap.size (w.heap.size + 1) o n c W' hO hN h0 h1 (r0.on' hb) (r1.on' hb)
 have HB := hide (Below.then b0 b1)
 clear b0 b1 r0 r1 hz hO hN
 go_enter Tryz.func96, Tryz.ntmps96
 go_wp2
 go_ret
 exact ⟨_, rfl, unhide hI, unhide HB⟩

/-- As UDP takes a step. -/
def udpF (φ : Int → Int) (c : Int) : Int := if c = 0 then 0 else if φ c = 0 then 65535 else φ c
theorem udpF_rng {φ : Int → Int} (h : ∀ c, 0 ≤ c → c ≤ 65535 → 0 ≤ φ c ∧ φ c ≤ 65535) (c : Int) (h0 : 0 ≤ c) (h1 : c ≤ 65535) : 0 ≤ udpF φ c ∧ udpF φ c ≤ 65535 := by
 unfold udpF
 have := h c h0 h1
 split
 ·decide
 ·split <;> omega
set_option maxHeartbeats 1000000 in
set_option maxRecDepth 100000 in
theorem unless1_any (b : Nat) (v : Value) (φ : Int → Int) (c : Int) (W : World) (h0 : 0 ≤ c) (h1 : c ≤ 65535) (hr : Row W b [v]) (hs : IsStep W v φ) :
  Calls Tryz.prog 135 #[.int .u16 c, .pointer (some ⟨b, 0, none⟩)] W fun e w' => e = .returned (.int .u16 (udpF φ c)) ∧ Below W.heap.size W w' := by
 obtain ⟨k, C, rfl, s⟩ := hs
 have he := s.ent
 have HC := hide (fun u hb => s.call u hb c h0 h1)
 have cb := hr.cell 0 _ rfl
 have HF : Hid (udpF φ c = if c = 0 then 0 else if φ c = 0 then 65535 else φ c) := rfl
 clear s hr
 generalize udpF φ c = X at *
 generalize φ c = y at *
 have HB0 := hide (Below.refl W.heap.size W)
 by_cases hc : c = 0
 ·have HX : Hid (X = 0) := by rw [HF.out, if_pos hc]; rfl
  subst hc
  go_enter Tryz.func135, Tryz.ntmps135
  go_wp2_with fail
  go_ret
  exact ⟨ret_u16 HX.out.symm, unhide HB0⟩
 ·have t1 : (c == 0) = false := by simpa using hc
  by_cases hy : y = 0
  ·have t2 : (y != 0) = false := by simpa using hy
   have HX : Hid (X = 65535) := by rw [HF.out, if_neg hc, if_pos hy]; rfl
   go_enter Tryz.func135, Tryz.ntmps135
   go_wp2_with fail
   refine (unhide HC _ (Below.refl _ _)).mono ?_
   rintro e w1 ⟨rfl, hb⟩
   have HB := hide hb
   clear hb
   go_wp2_with fail
   go_ret
   exact ⟨ret_u16 HX.out.symm, unhide HB⟩
  ·have t2 : (y != 0) = true := by simpa using hy
   have HX : Hid (X = y) := by rw [HF.out, if_neg hc, if_neg hy]; rfl
   go_enter Tryz.func135, Tryz.ntmps135
   go_wp2_with fail
   refine (unhide HC _ (Below.refl _ _)).mono ?_
   rintro e w1 ⟨rfl, hb⟩
   have HB := hide hb
   clear hb
   go_wp2_with fail
   go_ret
   exact ⟨ret_u16 HX.out.symm, unhide HB⟩

set_option maxHeartbeats 1000000 in
set_option maxRecDepth 100000 in
theorem unlessNone_any (v : Value) (φ : Int → Int) (w : World) (hs : IsStep w v φ) :
  Calls Tryz.prog 97 #[v] w fun e w' => ∃ v, e = .returned v ∧ IsStep w' v (udpF φ) ∧ Below w.heap.size w w' := by
 obtain ⟨k, C, rfl, s⟩ := hs
 have b0 := alloc_on' w (.cells #[.func (.func k) #[] C] 139)
 have r0 := row_new w [.func (.func k) #[] C] 139
 have hI : Hid (IsStep (w.alloc (.cells #[.func (.func k) #[] C] 139)) (.func (.func 135) #[] #[.pointer (some ⟨w.heap.size, 0, none⟩)]) (udpF φ)) := by
  refine ⟨_, _, rfl, Tryz.call135, fun c h0 h1 => udpF_rng s.rng c h0 h1, fun W' hb c h0 h1 => ?_⟩
  exact unless1_any w.heap.size _ φ c W' h0 h1 (r0.on' hb) ⟨k, C, rfl, (s.on b0).on hb⟩
 have HB := hide b0
 clear b0 r0 s
 go_enter Tryz.func97, Tryz.ntmps97
 go_wp2
 go_ret
 exact ⟨_, rfl, unhide hI, unhide HB⟩

/-- A check that is gone on with. -/
def goOnS (s : ByteArray) (at_ : Int) (φ : Int → Int) : ByteArray := if gotB s at_ 2 = true then set s at_ 2 (φ (got s at_ 2)) else s
theorem goOnS_le (s : ByteArray) (at_ : Int) (φ : Int → Int) : (goOnS s at_ φ).size ≤ s.size := by
 unfold goOnS
 split
 ·exact set_le _ _ _ _
 ·exact Nat.le_refl _
theorem got2_rng (s : ByteArray) (p : Int) : 0 ≤ got s p 2 ∧ got s p 2 ≤ 65535 := by
 have h1 := Ic.got_lo s p 2
 have h2 := Ic.got_lt s p 2
 simp at h2
 omega
set_option maxHeartbeats 1000000 in
set_option maxRecDepth 100000 in
theorem goOn_any (s : ByteArray) (at_ : Int) (v : Value) (φ : Int → Int) (w : World) (hs : s.size ≤ 281474976710656) (hv : IsStep w v φ) :
  Calls Tryz.prog 98 #[.string s, .int .i64 at_, v] w fun e w' => e = .returned (.string (goOnS s at_ φ)) ∧ Below w.heap.size w w' := by
 obtain ⟨k, C, rfl, st⟩ := hv
 have HG := hide (fun u => get_any s at_ 2 u (by unfold maxLen; omega))
 obtain ⟨g0, g1⟩ := got2_rng s at_
 have he := st.ent
 obtain ⟨x0, x1⟩ := st.rng _ g0 g1
 have HC := hide (st.call w (Below.refl _ _) _ g0 g1)
 have HF : Hid (goOnS s at_ φ = if gotB s at_ 2 = true then set s at_ 2 (φ (got s at_ 2)) else s) := rfl
 have HW := hide (fun (W : World) (t : TypeId) => with_any s W.heap.size 1 _ (W.alloc (.cells #[.int .i64 at_, .int .i64 2, .int .i64 (φ (got s at_ 2))] t)) hs (by decide) (nums1 (row_new W [.int .i64 at_, .int .i64 2, .int .i64 (φ (got s at_ 2))] t)))
 have HE : Hid (wth s (fun _ => (at_, (2 : Int), φ (got s at_ 2))) 1 = set s at_ 2 (φ (got s at_ 2))) := rfl
 rw [HE.out] at HW
 clear st HE
 generalize goOnS s at_ φ = X at *
 generalize φ (got s at_ 2) = y at *
 generalize set s at_ 2 y = Z at *
 generalize got s at_ 2 = c at *
 have k1 : IntKind.u16.wrap c = c := by rw [Ck.wrap_u16]; omega
 have k2 : IntKind.i64.wrap y = y := Oct.wraps_i64 _ x0 (by omega)
 cases hb2 : gotB s at_ 2 with
 | false =>
  rw [hb2] at HG HF
  clear hb2
  have HX : Hid (X = s) := by rw [HF.out]; rfl
  go_enter Tryz.func98, Tryz.ntmps98
  go_wp2_with fail
  refine (unhide HG _).mono ?_
  rintro e w1 ⟨rfl, rfl⟩
  go_wp2_with fail
  go_ret
  exact ⟨ret_str' HX.out.symm, Below.refl _ _⟩
 | true =>
  rw [hb2] at HG HF
  clear hb2
  have HX : Hid (X = Z) := by rw [HF.out]; rfl
  go_enter Tryz.func98, Tryz.ntmps98
  go_wp2_with fail
  refine (unhide HG _).mono ?_
  rintro e w1 ⟨rfl, rfl⟩
  go_wp2_with fail
  refine (unhide HC).mono ?_
  rintro e w2 ⟨rfl, hb⟩
  have HB := hide hb
  clear hb
  go_wp2_with fail
  refine (unhide HW _ _).mono ?_
  rintro e w3 ⟨rfl, hb⟩
  have HB3 := hide (Below.then (Below.then (unhide HB) (alloc_on' _ _)) hb)
  clear hb
  go_wp2_with fail
  go_ret
  exact ⟨ret_str' HX.out.symm, unhide HB3⟩
end Go.Proofs.YtpjaajeojiaeiaaGreatDoor

/- What quote of package patch does. -/
namespace Go.Proofs.YtpjaajeojiaeiaaGreatDoor
open Go.ChangeShapes Go.WideShapes Go.ChangeAt Go.RowKit

/-- What an operation yields: this value, a step, a row of steps. -/
inductive Pr where
 | val (c : Value)
 | step (φ : Int → Int)
 | row (n : Nat) (φ : Nat → Int → Int)
def Pr.ok : Pr → Value → World → Prop
 | .val c, v, _ => v = c
 | .step φ, v, u => IsStep u v φ
 | .row n φ, v, u => ∃ g, v = .slice (some ⟨g, 0, none⟩) n n ∧ Steps u g n φ
theorem Pr.on {p : Pr} {v : Value} {u u' : World} (h : p.ok v u) (hb : Below u.heap.size u u') : p.ok v u' := by
 cases p with
 | val c => exact h
 | step φ => exact IsStep.on h hb
 | row n φ =>
  obtain ⟨g, e, s⟩ := h
  exact ⟨g, e, s.on hb⟩
def PrIs (ps : List Pr) (i : Nat) (v : Value) (u : World) : Prop := match ps[i]? with | some p => p.ok v u | none => False
theorem pr_mk {ps : List Pr} {i : Nat} {p : Pr} {v : Value} {u : World} (h : ps[i]? = some p) (hv : p.ok v u) : PrIs ps i v u := by unfold PrIs; rw [h]; exact hv
theorem pr_of {ps : List Pr} {i : Nat} {p : Pr} {v : Value} {u : World} (hv : PrIs ps i v u) (h : ps[i]? = some p) : p.ok v u := by unfold PrIs at hv; rw [h] at hv; exact hv
theorem of_val {ps : List Pr} {i : Nat} {c v : Value} {u : World} (hv : PrIs ps i v u) (h : ps[i]? = some (.val c)) : v = c := pr_of hv h
theorem of_step {ps : List Pr} {i : Nat} {φ : Int → Int} {v : Value} {u : World} (hv : PrIs ps i v u) (h : ps[i]? = some (.step φ)) : IsStep u v φ := pr_of hv h
theorem of_row {ps : List Pr} {i n : Nat} {φ : Nat → Int → Int} {v : Value} {u : World} (hv : PrIs ps i v u) (h : ps[i]? = some (.row n φ)) : ∃ g, v = .slice (some ⟨g, 0, none⟩) n n ∧ Steps u g n φ := pr_of hv h
theorem prIs_on (ps : List Pr) (i : Nat) (v : Value) (u u' : World) (h : PrIs ps i v u) (hb : Below u.heap.size u u') : PrIs ps i v u' := by
 unfold PrIs at h ⊢
 cases hx : ps[i]? with
 | none => rw [hx] at h; exact h
 | some p => rw [hx] at h; exact Pr.on h hb
theorem yields_pr {P : Program} {F : Value → World → Prop} {u : World} {f : FuncId} {args : Array Value} {r : Result Next} (hr : r = .ok (.enter f args) u)
  (h : Calls P f args u fun e u' => ∃ v, e = .returned v ∧ Below u.heap.size u u' ∧ F v u') : yieldsUpon P (fun u u' => Below u.heap.size u u') F u r := by
 rw [hr]
 exact h.mono fun e u' ⟨v, he, hb, hF⟩ => ⟨v, he, hb, hF⟩
theorem wp_region_pr {P : Program} {id : Nat} {l : List Oper} {Q : Exit → Act → World → Prop} {a : Act} {w : World} (hmix : P.follows .mixedOrders = true) (ps : List Pr)
  (htidy : Region.tidyB l.toArray a.tmps.size = true)
  (hop : ∀ (i : Nat) (o : Oper) (b : Act) (u : World), l[i]? = some o → Below w.heap.size w.drew u → (∀ t, (∀ i, dstAt l.toArray i ≠ some t) → b.tmps.getD t undef = a.tmps.getD t undef) →
   (∀ j t, (o.after.any fun e => Region.binds .any e && e.on == j) = true → dstAt l.toArray j = some t → PrIs ps j (b.tmps.getD t undef) u) →
   (Region.wanted o (yielded l.toArray b.tmps) = true ∧ yieldsUpon P (fun u u' => Below u.heap.size u u') (PrIs ps i) u ((execOp b.eval o).run P u)) ∨ (Region.wanted o (yielded l.toArray b.tmps) = false ∧ PrIs ps i undef u))
  (hend : ∀ xs u, xs.length = l.length → Below w.heap.size w.drew u → (∀ i t, i < l.length → dstAt l.toArray i = some t → PrIs ps i (xs.getD i undef) u) → Q .normal (putAll l.toArray xs l.length a) u) : (Code.region id l.toArray true).wp P Q a w := by
 refine wp_region_values hmix (PrIs ps) (fun u u' => Below u.heap.size u u') htidy (fun i v u u' h hb => prIs_on _ i v u u' h hb) (fun u => Below.refl _ _) (fun a b c h h' => h.trans (h'.mono h.size)) (fun i o b u ho hG => hop i o b u ho hG) ?_
 intro b u hG hm
 have e : b = putAll l.toArray (upOf l b) l.length a := met_all_list (vs := upOf l b) htidy (u := u) ⟨hm.defers, hm.size, hm.old, fun i t hi hd => (upOf_at hi hd).symm⟩
 rw [e]
 refine hend _ u (upOf_length l b) hG fun i t hi hd => ?_
 rw [upOf_at hi hd]
 exact hm.new i t hi hd
theorem pdrew {V u : World} {B : Nat} (hb : Below B V.drew u) : Below B V u := ⟨hb.os, hb.tape, hb.output, hb.size, hb.block⟩
theorem steps2 {W : World} {g : Nat} {v1 v2 : Value} {a b : Int → Int} (r : Row W g [v1, v2]) (h1 : IsStep W v1 a) (h2 : IsStep W v2 b) : Steps W g 2 (fun k => if k = 0 then a else b) := fun k hk => by
 have : k = 0 ∨ k = 1 := by omega
 rcases this with rfl | rfl
 ·exact ⟨v1, r.cell 0 _ rfl, h1⟩
 ·exact ⟨v2, r.cell 1 _ rfl, h2⟩
theorem steps3 {W : World} {g : Nat} {v1 v2 v3 : Value} {a b c : Int → Int} (r : Row W g [v1, v2, v3]) (h1 : IsStep W v1 a) (h2 : IsStep W v2 b) (h3 : IsStep W v3 c) : Steps W g 3 (fun k => if k = 0 then a else if k = 1 then b else c) := fun k hk => by
 have : k = 0 ∨ k = 1 ∨ k = 2 := by omega
 rcases this with rfl | rfl | rfl
 ·exact ⟨v1, r.cell 0 _ rfl, h1⟩
 ·exact ⟨v2, r.cell 1 _ rfl, h2⟩
 ·exact ⟨v3, r.cell 2 _ rfl, h3⟩
theorem list13 {α : Type} {l : List α} (h : l.length = 13) : ∃ c0 c1 c2 c3 c4 c5 c6 c7 c8 c9 c10 c11 c12, l = [c0, c1, c2, c3, c4, c5, c6, c7, c8, c9, c10, c11, c12] := by
 match l, h with
 | [c0, c1, c2, c3, c4, c5, c6, c7, c8, c9, c10, c11, c12], _ => exact ⟨c0, c1, c2, c3, c4, c5, c6, c7, c8, c9, c10, c11, c12, rfl⟩
theorem list14 {α : Type} {l : List α} (h : l.length = 14) : ∃ c0 c1 c2 c3 c4 c5 c6 c7 c8 c9 c10 c11 c12 c13, l = [c0, c1, c2, c3, c4, c5, c6, c7, c8, c9, c10, c11, c12, c13] := by
 match l, h with
 | [c0, c1, c2, c3, c4, c5, c6, c7, c8, c9, c10, c11, c12, c13], _ => exact ⟨c0, c1, c2, c3, c4, c5, c6, c7, c8, c9, c10, c11, c12, c13, rfl⟩

/-- What a check is gone on with: by the addresses, by the ports too, as UDP takes it. -/
def onA (was : Tp) (t : En) : Int → Int := runN (fun k => if k = 0 then adrF was.src t.src else adrF was.dst t.dst) 2
def onP (was : Tp) (t : En) : Int → Int := runN (fun k => if k = 0 then onA was t else if k = 1 then prtF was.sport t.sport else prtF was.dport t.dport) 3
def onE (was : Tp) (t : En) : Int → Int := if was.proto = 17 then udpF (onP was t) else onP was t
def quoA (q : ByteArray) (z : Int) (was : Tp) (t : En) : ByteArray := goOnS (addrS (q.extract 0 z.toNat) t.src t.dst) 10 (onA was t)
def quoB (q : ByteArray) (z : Int) (was : Tp) (t : En) : ByteArray := goOnS (portS (q.extract z.toNat q.size) t.sport t.dport) (Ps.plc was.proto) (onE was t)
def quoS (q : ByteArray) (z : Int) (was : Tp) (t : En) : ByteArray := quoA q z was t ++ quoB q z was t
theorem quoA_le (q : ByteArray) (z : Int) (was : Tp) (t : En) : (quoA q z was t).size ≤ q.size := Nat.le_trans (goOnS_le _ _ _) (Nat.le_trans (addrS_le _ _ _) (by rw [ByteArray.size_extract]; omega))
theorem quoB_le (q : ByteArray) (z : Int) (was : Tp) (t : En) : (quoB q z was t).size ≤ q.size := Nat.le_trans (goOnS_le _ _ _) (Nat.le_trans (portS_le _ _ _) (by rw [ByteArray.size_extract]; omega))

set_option maxRecDepth 100000 in
set_option maxHeartbeats 4000000 in
theorem quote_any (q : ByteArray) (z : Int) (was : Tp) (t : En) (w : World) (hq : q.size ≤ 281474976710) (hz0 : 0 ≤ z) (hz1 : z ≤ q.size) (hA : Ps.U32 was.src ∧ Ps.U32 was.dst) (hT : Ps.U32 t.src ∧ Ps.U32 t.dst) (hP : (0 ≤ was.sport ∧ was.sport ≤ 65535) ∧ (0 ≤ was.dport ∧ was.dport ≤ 65535)) (hQ : (0 ≤ t.sport ∧ t.sport ≤ 65535) ∧ (0 ≤ t.dport ∧ t.dport ≤ 65535)) (hI : Ps.I64 was.proto) :
  Calls Tryz.prog 59 #[.string q, .int .i64 z, was.val, t.val] w fun e w' => e = .returned (.string (quoS q z was t)) ∧ Below w.heap.size w w' := by
 have zA := quoA_le q z was t
 have zB := quoB_le q z was t
 have HS : Hid (quoS q z was t = quoA q z was t ++ quoB q z was t) := rfl
 have e1 : (q.extract 0 z.toNat).size ≤ q.size := by rw [ByteArray.size_extract]; omega
 have e2 : (q.extract z.toNat q.size).size ≤ q.size := by rw [ByteArray.size_extract]; omega
 have e3 := addrS_le (q.extract 0 z.toNat) t.src t.dst
 have e4 := portS_le (q.extract z.toNat q.size) t.sport t.dport
 have HGA := hide (fun u v hv => goOn_any (addrS (q.extract 0 z.toNat) t.src t.dst) 10 v (onA was t) u (by omega) hv)
 have HGB := hide (fun u v hv => goOn_any (portS (q.extract z.toNat q.size) t.sport t.dport) (Ps.plc was.proto) v (onE was t) u (by omega) hv)
 have HWA := hide (fun u => withAddresses_any (q.extract 0 z.toNat) t.src t.dst u (by omega) hT.1 hT.2)
 have HWP := hide (fun u => withPorts_any (q.extract z.toNat q.size) t u (by omega))
 have HPL := hide (fun u => Ps.place_any was.proto u hI)
 have tad := Ic.add_run (quoA q z was t) (quoB q z was t) (by omega) (by omega)
 clear e1 e2 e3 e4 zA zB
 rw [show goOnS (addrS (q.extract 0 z.toNat) t.src t.dst) 10 (onA was t) = quoA q z was t from rfl] at HGA
 rw [show goOnS (portS (q.extract z.toNat q.size) t.sport t.dport) (Ps.plc was.proto) (onE was t) = quoB q z was t from rfl] at HGB
 obtain ⟨H, hH⟩ : ∃ H, q.extract 0 z.toNat = H := ⟨_, rfl⟩
 obtain ⟨R, hR⟩ : ∃ R, q.extract z.toNat q.size = R := ⟨_, rfl⟩
 rw [hH] at HGA HWA
 rw [hR] at HGB HWP
 generalize quoS q z was t = QS at *
 generalize quoA q z was t = QA at *
 generalize quoB q z was t = QB at *
 generalize addrS H t.src t.dst = HA at *
 generalize portS R t.sport t.dport = RA at *
 generalize Ps.plc was.proto = PL at *
 generalize Ps.plcB was.proto = PLB at *
 have rt := (row_new w was.cells 43).on' (alloc_on' _ (.cells t.cells.toArray 27))
 have re := row_new (w.alloc (.cells was.cells.toArray 43)) t.cells 27
 have bel := Below.then (alloc_on' w (.cells was.cells.toArray 43)) (alloc_on' _ (.cells t.cells.toArray 27))
 rw [show (w.alloc (.cells was.cells.toArray 43)).heap.size = w.heap.size + 1 by simp] at re
 go_enter Tryz.func59, Tryz.ntmps59
 go_wp2_with fail
 generalize (w.alloc (.cells was.cells.toArray 43)).alloc (.cells t.cells.toArray 27) = W0 at *
 refine wp_region_pr (by kernel_rfl) [.val (.pointer (some ⟨w.heap.size, 1, none⟩)), .val (.int .u32 was.src), .val (.pointer (some ⟨w.heap.size + 1, 0, none⟩)), .val (.int .u32 t.src), .step (adrF was.src t.src), .val (.pointer (some ⟨w.heap.size, 2, none⟩)), .val (.int .u32 was.dst), .val (.pointer (some ⟨w.heap.size + 1, 1, none⟩)), .val (.int .u32 t.dst), .step (adrF was.dst t.dst), .row 2 (fun k => if k = 0 then adrF was.src t.src else adrF was.dst t.dst), .step (onA was t), .step (onA was t)] (by kernel_rfl) ?op ?fin
 case op =>
  intro i o bx u ho hbel hold hdeps
  match i, ho with
  | 0, ho =>
   obtain rfl := Option.some.inj ho
   have d6 : bx.tmps.getD 6 undef = (.pointer (some ⟨w.heap.size, 0, none⟩)) := hold 6 (base_of (by kernel_rfl))
   refine .inl ⟨rfl, yields_value (v := (.pointer (some ⟨w.heap.size, 1, none⟩))) (u' := u) ?_ (Below.refl _ _) (pr_mk (p := .val (.pointer (some ⟨w.heap.size, 1, none⟩))) (by kernel_rfl) rfl)⟩
   simp [Act.eval, d6, go_sem]
  | 1, ho =>
   obtain rfl := Option.some.inj ho
   have d15 : bx.tmps.getD 15 undef = (.pointer (some ⟨w.heap.size, 1, none⟩)) := of_val (hdeps 0 15 (by kernel_rfl) (by kernel_rfl)) (by kernel_rfl)
   have hl := ((rt.on' (pdrew hbel)).cell 1 _ rfl)
   refine .inl ⟨rfl, yields_value (v := (.int .u32 was.src)) (u' := u) ?_ (Below.refl _ _) (pr_mk (p := .val (.int .u32 was.src)) (by kernel_rfl) rfl)⟩
   simp [Act.eval, d15, hl, go_sem]
  | 2, ho =>
   obtain rfl := Option.some.inj ho
   have d7 : bx.tmps.getD 7 undef = (.pointer (some ⟨w.heap.size + 1, 0, none⟩)) := hold 7 (base_of (by kernel_rfl))
   refine .inl ⟨rfl, yields_value (v := (.pointer (some ⟨w.heap.size + 1, 0, none⟩))) (u' := u) ?_ (Below.refl _ _) (pr_mk (p := .val (.pointer (some ⟨w.heap.size + 1, 0, none⟩))) (by kernel_rfl) rfl)⟩
   simp [Act.eval, d7, go_sem]
  | 3, ho =>
   obtain rfl := Option.some.inj ho
   have d17 : bx.tmps.getD 17 undef = (.pointer (some ⟨w.heap.size + 1, 0, none⟩)) := of_val (hdeps 2 17 (by kernel_rfl) (by kernel_rfl)) (by kernel_rfl)
   have hl := ((re.on' (pdrew hbel)).cell 0 _ rfl)
   refine .inl ⟨rfl, yields_value (v := (.int .u32 t.src)) (u' := u) ?_ (Below.refl _ _) (pr_mk (p := .val (.int .u32 t.src)) (by kernel_rfl) rfl)⟩
   simp [Act.eval, d17, hl, go_sem]
  | 4, ho =>
   obtain rfl := Option.some.inj ho
   have d16 : bx.tmps.getD 16 undef = (.int .u32 was.src) := of_val (hdeps 1 16 (by kernel_rfl) (by kernel_rfl)) (by kernel_rfl)
   have d18 : bx.tmps.getD 18 undef = (.int .u32 t.src) := of_val (hdeps 3 18 (by kernel_rfl) (by kernel_rfl)) (by kernel_rfl)
   refine .inl ⟨rfl, yields_pr (f := 95) (args := #[.int .u32 was.src, .int .u32 t.src]) ?_ ((address_any was.src t.src u hA.1 hT.1).mono fun e u' ⟨v, he, hs, hb⟩ => ⟨v, he, hb, pr_mk (p := .step (adrF was.src t.src)) (by kernel_rfl) hs⟩)⟩
   simp [Act.eval, d16, d18, go_sem]
  | 5, ho =>
   obtain rfl := Option.some.inj ho
   have d6 : bx.tmps.getD 6 undef = (.pointer (some ⟨w.heap.size, 0, none⟩)) := hold 6 (base_of (by kernel_rfl))
   refine .inl ⟨rfl, yields_value (v := (.pointer (some ⟨w.heap.size, 2, none⟩))) (u' := u) ?_ (Below.refl _ _) (pr_mk (p := .val (.pointer (some ⟨w.heap.size, 2, none⟩))) (by kernel_rfl) rfl)⟩
   simp [Act.eval, d6, go_sem]
  | 6, ho =>
   obtain rfl := Option.some.inj ho
   have d20 : bx.tmps.getD 20 undef = (.pointer (some ⟨w.heap.size, 2, none⟩)) := of_val (hdeps 5 20 (by kernel_rfl) (by kernel_rfl)) (by kernel_rfl)
   have hl := ((rt.on' (pdrew hbel)).cell 2 _ rfl)
   refine .inl ⟨rfl, yields_value (v := (.int .u32 was.dst)) (u' := u) ?_ (Below.refl _ _) (pr_mk (p := .val (.int .u32 was.dst)) (by kernel_rfl) rfl)⟩
   simp [Act.eval, d20, hl, go_sem]
  | 7, ho =>
   obtain rfl := Option.some.inj ho
   have d7 : bx.tmps.getD 7 undef = (.pointer (some ⟨w.heap.size + 1, 0, none⟩)) := hold 7 (base_of (by kernel_rfl))
   refine .inl ⟨rfl, yields_value (v := (.pointer (some ⟨w.heap.size + 1, 1, none⟩))) (u' := u) ?_ (Below.refl _ _) (pr_mk (p := .val (.pointer (some ⟨w.heap.size + 1, 1, none⟩))) (by kernel_rfl) rfl)⟩
   simp [Act.eval, d7, go_sem]
  | 8, ho =>
   obtain rfl := Option.some.inj ho
   have d22 : bx.tmps.getD 22 undef = (.pointer (some ⟨w.heap.size + 1, 1, none⟩)) := of_val (hdeps 7 22 (by kernel_rfl) (by kernel_rfl)) (by kernel_rfl)
   have hl := ((re.on' (pdrew hbel)).cell 1 _ rfl)
   refine .inl ⟨rfl, yields_value (v := (.int .u32 t.dst)) (u' := u) ?_ (Below.refl _ _) (pr_mk (p := .val (.int .u32 t.dst)) (by kernel_rfl) rfl)⟩
   simp [Act.eval, d22, hl, go_sem]
  | 9, ho =>
   obtain rfl := Option.some.inj ho
   have d21 : bx.tmps.getD 21 undef = (.int .u32 was.dst) := of_val (hdeps 6 21 (by kernel_rfl) (by kernel_rfl)) (by kernel_rfl)
   have d23 : bx.tmps.getD 23 undef = (.int .u32 t.dst) := of_val (hdeps 8 23 (by kernel_rfl) (by kernel_rfl)) (by kernel_rfl)
   refine .inl ⟨rfl, yields_pr (f := 95) (args := #[.int .u32 was.dst, .int .u32 t.dst]) ?_ ((address_any was.dst t.dst u hA.2 hT.2).mono fun e u' ⟨v, he, hs, hb⟩ => ⟨v, he, hb, pr_mk (p := .step (adrF was.dst t.dst)) (by kernel_rfl) hs⟩)⟩
   simp [Act.eval, d21, d23, go_sem]
  | 10, ho =>
   obtain rfl := Option.some.inj ho
   obtain ⟨v19, d19, s19⟩ : ∃ v, bx.tmps.getD 19 undef = v ∧ IsStep u v (adrF was.src t.src) := ⟨_, rfl, of_step (hdeps 4 19 (by kernel_rfl) (by kernel_rfl)) (by kernel_rfl)⟩
   have q19 : bx.tmps[19]?.getD undef = v19 := by rw [← Array.getD_eq_getD_getElem?]; exact d19
   obtain ⟨v24, d24, s24⟩ : ∃ v, bx.tmps.getD 24 undef = v ∧ IsStep u v (adrF was.dst t.dst) := ⟨_, rfl, of_step (hdeps 9 24 (by kernel_rfl) (by kernel_rfl)) (by kernel_rfl)⟩
   have q24 : bx.tmps[24]?.getD undef = v24 := by rw [← Array.getD_eq_getD_getElem?]; exact d24
   have s19' := s19
   obtain ⟨k19, C19, e19, -⟩ := s19'
   subst e19
   have s24' := s24
   obtain ⟨k24, C24, e24, -⟩ := s24'
   subst e24
   refine .inl ⟨rfl, yields_value (v := .slice (some ⟨u.heap.size, 0, none⟩) 2 2) (u' := u.alloc (.cells #[.func (.func k19) #[] C19, .func (.func k24) #[] C24] 139)) ?_ (alloc_on' _ _) (pr_mk (p := .row 2 (fun k => if k = 0 then adrF was.src t.src else adrF was.dst t.dst)) (by kernel_rfl) ⟨u.heap.size, rfl, steps2 (row_new u [.func (.func k19) #[] C19, .func (.func k24) #[] C24] 139) (s19.on (alloc_on' _ _)) (s24.on (alloc_on' _ _))⟩)⟩
   simp [Act.eval, q19, q24, go_sem]
  | 11, ho =>
   obtain rfl := Option.some.inj ho
   obtain ⟨g25, d25, s25⟩ : ∃ g, bx.tmps.getD 25 undef = .slice (some ⟨g, 0, none⟩) 2 2 ∧ Steps u g 2 (fun k => if k = 0 then adrF was.src t.src else adrF was.dst t.dst) := of_row (hdeps 10 25 (by kernel_rfl) (by kernel_rfl)) (by kernel_rfl)
   refine .inl ⟨rfl, yields_pr (f := 94) (args := #[.slice (some ⟨g25, 0, none⟩) 2 2]) ?_ ((chain_any g25 2 _ u (by decide) s25).mono fun e u' ⟨v, he, hs, hb⟩ => ⟨v, he, hb, pr_mk (p := .step (onA was t)) (by kernel_rfl) hs⟩)⟩
   simp [Act.eval, d25, go_sem]
  | 12, ho =>
   obtain rfl := Option.some.inj ho
   obtain ⟨v26, d26, s26⟩ : ∃ v, bx.tmps.getD 26 undef = v ∧ IsStep u v (onA was t) := ⟨_, rfl, of_step (hdeps 11 26 (by kernel_rfl) (by kernel_rfl)) (by kernel_rfl)⟩
   refine .inl ⟨rfl, yields_value (v := v26) (u' := u) ?_ (Below.refl _ _) (pr_mk (p := .step (onA was t)) (by kernel_rfl) s26)⟩
   simp [execOp, Act.eval, d26]
  | n + 13, ho => exact absurd ho (by simp)
 case fin =>
  intro xs u hlen hbel hF
  obtain ⟨x0, x1, x2, x3, x4, x5, x6, x7, x8, x9, x10, x11, x12, rfl⟩ := list13 (l := xs) hlen
  obtain rfl : x0 = (.pointer (some ⟨w.heap.size, 1, none⟩)) := of_val (hF 0 15 (by decide) (by kernel_rfl)) (by kernel_rfl)
  obtain rfl : x1 = (.int .u32 was.src) := of_val (hF 1 16 (by decide) (by kernel_rfl)) (by kernel_rfl)
  obtain rfl : x2 = (.pointer (some ⟨w.heap.size + 1, 0, none⟩)) := of_val (hF 2 17 (by decide) (by kernel_rfl)) (by kernel_rfl)
  obtain rfl : x3 = (.int .u32 t.src) := of_val (hF 3 18 (by decide) (by kernel_rfl)) (by kernel_rfl)
  obtain rfl : x5 = (.pointer (some ⟨w.heap.size, 2, none⟩)) := of_val (hF 5 20 (by decide) (by kernel_rfl)) (by kernel_rfl)
  obtain rfl : x6 = (.int .u32 was.dst) := of_val (hF 6 21 (by decide) (by kernel_rfl)) (by kernel_rfl)
  obtain rfl : x7 = (.pointer (some ⟨w.heap.size + 1, 1, none⟩)) := of_val (hF 7 22 (by decide) (by kernel_rfl)) (by kernel_rfl)
  obtain rfl : x8 = (.int .u32 t.dst) := of_val (hF 8 23 (by decide) (by kernel_rfl)) (by kernel_rfl)
  have hstep : IsStep u x12 (onA was t) := of_step (hF 12 9 (by decide) (by kernel_rfl)) (by kernel_rfl)
  clear hF hlen
  simp [putAll, dstAt, Act.put]
  replace rt := rt.on' (pdrew hbel)
  replace re := re.on' (pdrew hbel)
  replace bel := Below.then bel (pdrew hbel)
  obtain ⟨va, hva⟩ : ∃ v, x12 = v := ⟨_, rfl⟩
  rw [hva] at hstep ⊢
  have sa := hstep
  clear hbel hstep hva
  go_wp2_with fail
  refine wp_region_pr (by kernel_rfl) [.step (onA was t), .val (.pointer (some ⟨w.heap.size, 3, none⟩)), .val (.int .i64 was.sport), .val (.pointer (some ⟨w.heap.size + 1, 2, none⟩)), .val (.int .i64 t.sport), .step (prtF was.sport t.sport), .val (.pointer (some ⟨w.heap.size, 4, none⟩)), .val (.int .i64 was.dport), .val (.pointer (some ⟨w.heap.size + 1, 3, none⟩)), .val (.int .i64 t.dport), .step (prtF was.dport t.dport), .row 3 (fun k => if k = 0 then onA was t else if k = 1 then prtF was.sport t.sport else prtF was.dport t.dport), .step (onP was t), .step (onP was t)] (by kernel_rfl) ?op ?fin
  case op =>
   intro i o bx u ho hbel hold hdeps
   match i, ho with
   | 0, ho =>
    obtain rfl := Option.some.inj ho
    have d9 : bx.tmps.getD 9 undef = va := hold 9 (base_of (by kernel_rfl))
    have s9 := sa.on (pdrew hbel)
    refine .inl ⟨rfl, yields_value (v := va) (u' := u) ?_ (Below.refl _ _) (pr_mk (p := .step (onA was t)) (by kernel_rfl) s9)⟩
    simp [execOp, Act.eval, d9]
   | 1, ho =>
    obtain rfl := Option.some.inj ho
    have d6 : bx.tmps.getD 6 undef = (.pointer (some ⟨w.heap.size, 0, none⟩)) := hold 6 (base_of (by kernel_rfl))
    refine .inl ⟨rfl, yields_value (v := (.pointer (some ⟨w.heap.size, 3, none⟩))) (u' := u) ?_ (Below.refl _ _) (pr_mk (p := .val (.pointer (some ⟨w.heap.size, 3, none⟩))) (by kernel_rfl) rfl)⟩
    simp [Act.eval, d6, go_sem]
   | 2, ho =>
    obtain rfl := Option.some.inj ho
    have d28 : bx.tmps.getD 28 undef = (.pointer (some ⟨w.heap.size, 3, none⟩)) := of_val (hdeps 1 28 (by kernel_rfl) (by kernel_rfl)) (by kernel_rfl)
    have hl := ((rt.on' (pdrew hbel)).cell 3 _ rfl)
    refine .inl ⟨rfl, yields_value (v := (.int .i64 was.sport)) (u' := u) ?_ (Below.refl _ _) (pr_mk (p := .val (.int .i64 was.sport)) (by kernel_rfl) rfl)⟩
    simp [Act.eval, d28, hl, go_sem]
   | 3, ho =>
    obtain rfl := Option.some.inj ho
    have d7 : bx.tmps.getD 7 undef = (.pointer (some ⟨w.heap.size + 1, 0, none⟩)) := hold 7 (base_of (by kernel_rfl))
    refine .inl ⟨rfl, yields_value (v := (.pointer (some ⟨w.heap.size + 1, 2, none⟩))) (u' := u) ?_ (Below.refl _ _) (pr_mk (p := .val (.pointer (some ⟨w.heap.size + 1, 2, none⟩))) (by kernel_rfl) rfl)⟩
    simp [Act.eval, d7, go_sem]
   | 4, ho =>
    obtain rfl := Option.some.inj ho
    have d30 : bx.tmps.getD 30 undef = (.pointer (some ⟨w.heap.size + 1, 2, none⟩)) := of_val (hdeps 3 30 (by kernel_rfl) (by kernel_rfl)) (by kernel_rfl)
    have hl := ((re.on' (pdrew hbel)).cell 2 _ rfl)
    refine .inl ⟨rfl, yields_value (v := (.int .i64 t.sport)) (u' := u) ?_ (Below.refl _ _) (pr_mk (p := .val (.int .i64 t.sport)) (by kernel_rfl) rfl)⟩
    simp [Act.eval, d30, hl, go_sem]
   | 5, ho =>
    obtain rfl := Option.some.inj ho
    have d29 : bx.tmps.getD 29 undef = (.int .i64 was.sport) := of_val (hdeps 2 29 (by kernel_rfl) (by kernel_rfl)) (by kernel_rfl)
    have d31 : bx.tmps.getD 31 undef = (.int .i64 t.sport) := of_val (hdeps 4 31 (by kernel_rfl) (by kernel_rfl)) (by kernel_rfl)
    refine .inl ⟨rfl, yields_pr (f := 96) (args := #[.int .i64 was.sport, .int .i64 t.sport]) ?_ ((port_any was.sport t.sport u hP.1 hQ.1).mono fun e u' ⟨v, he, hs, hb⟩ => ⟨v, he, hb, pr_mk (p := .step (prtF was.sport t.sport)) (by kernel_rfl) hs⟩)⟩
    simp [Act.eval, d29, d31, go_sem]
   | 6, ho =>
    obtain rfl := Option.some.inj ho
    have d6 : bx.tmps.getD 6 undef = (.pointer (some ⟨w.heap.size, 0, none⟩)) := hold 6 (base_of (by kernel_rfl))
    refine .inl ⟨rfl, yields_value (v := (.pointer (some ⟨w.heap.size, 4, none⟩))) (u' := u) ?_ (Below.refl _ _) (pr_mk (p := .val (.pointer (some ⟨w.heap.size, 4, none⟩))) (by kernel_rfl) rfl)⟩
    simp [Act.eval, d6, go_sem]
   | 7, ho =>
    obtain rfl := Option.some.inj ho
    have d33 : bx.tmps.getD 33 undef = (.pointer (some ⟨w.heap.size, 4, none⟩)) := of_val (hdeps 6 33 (by kernel_rfl) (by kernel_rfl)) (by kernel_rfl)
    have hl := ((rt.on' (pdrew hbel)).cell 4 _ rfl)
    refine .inl ⟨rfl, yields_value (v := (.int .i64 was.dport)) (u' := u) ?_ (Below.refl _ _) (pr_mk (p := .val (.int .i64 was.dport)) (by kernel_rfl) rfl)⟩
    simp [Act.eval, d33, hl, go_sem]
   | 8, ho =>
    obtain rfl := Option.some.inj ho
    have d7 : bx.tmps.getD 7 undef = (.pointer (some ⟨w.heap.size + 1, 0, none⟩)) := hold 7 (base_of (by kernel_rfl))
    refine .inl ⟨rfl, yields_value (v := (.pointer (some ⟨w.heap.size + 1, 3, none⟩))) (u' := u) ?_ (Below.refl _ _) (pr_mk (p := .val (.pointer (some ⟨w.heap.size + 1, 3, none⟩))) (by kernel_rfl) rfl)⟩
    simp [Act.eval, d7, go_sem]
   | 9, ho =>
    obtain rfl := Option.some.inj ho
    have d35 : bx.tmps.getD 35 undef = (.pointer (some ⟨w.heap.size + 1, 3, none⟩)) := of_val (hdeps 8 35 (by kernel_rfl) (by kernel_rfl)) (by kernel_rfl)
    have hl := ((re.on' (pdrew hbel)).cell 3 _ rfl)
    refine .inl ⟨rfl, yields_value (v := (.int .i64 t.dport)) (u' := u) ?_ (Below.refl _ _) (pr_mk (p := .val (.int .i64 t.dport)) (by kernel_rfl) rfl)⟩
    simp [Act.eval, d35, hl, go_sem]
   | 10, ho =>
    obtain rfl := Option.some.inj ho
    have d34 : bx.tmps.getD 34 undef = (.int .i64 was.dport) := of_val (hdeps 7 34 (by kernel_rfl) (by kernel_rfl)) (by kernel_rfl)
    have d36 : bx.tmps.getD 36 undef = (.int .i64 t.dport) := of_val (hdeps 9 36 (by kernel_rfl) (by kernel_rfl)) (by kernel_rfl)
    refine .inl ⟨rfl, yields_pr (f := 96) (args := #[.int .i64 was.dport, .int .i64 t.dport]) ?_ ((port_any was.dport t.dport u hP.2 hQ.2).mono fun e u' ⟨v, he, hs, hb⟩ => ⟨v, he, hb, pr_mk (p := .step (prtF was.dport t.dport)) (by kernel_rfl) hs⟩)⟩
    simp [Act.eval, d34, d36, go_sem]
   | 11, ho =>
    obtain rfl := Option.some.inj ho
    obtain ⟨v27, d27, s27⟩ : ∃ v, bx.tmps.getD 27 undef = v ∧ IsStep u v (onA was t) := ⟨_, rfl, of_step (hdeps 0 27 (by kernel_rfl) (by kernel_rfl)) (by kernel_rfl)⟩
    have q27 : bx.tmps[27]?.getD undef = v27 := by rw [← Array.getD_eq_getD_getElem?]; exact d27
    obtain ⟨v32, d32, s32⟩ : ∃ v, bx.tmps.getD 32 undef = v ∧ IsStep u v (prtF was.sport t.sport) := ⟨_, rfl, of_step (hdeps 5 32 (by kernel_rfl) (by kernel_rfl)) (by kernel_rfl)⟩
    have q32 : bx.tmps[32]?.getD undef = v32 := by rw [← Array.getD_eq_getD_getElem?]; exact d32
    obtain ⟨v37, d37, s37⟩ : ∃ v, bx.tmps.getD 37 undef = v ∧ IsStep u v (prtF was.dport t.dport) := ⟨_, rfl, of_step (hdeps 10 37 (by kernel_rfl) (by kernel_rfl)) (by kernel_rfl)⟩
    have q37 : bx.tmps[37]?.getD undef = v37 := by rw [← Array.getD_eq_getD_getElem?]; exact d37
    have s27' := s27
    obtain ⟨k27, C27, e27, -⟩ := s27'
    subst e27
    have s32' := s32
    obtain ⟨k32, C32, e32, -⟩ := s32'
    subst e32
    have s37' := s37
    obtain ⟨k37, C37, e37, -⟩ := s37'
    subst e37
    refine .inl ⟨rfl, yields_value (v := .slice (some ⟨u.heap.size, 0, none⟩) 3 3) (u' := u.alloc (.cells #[.func (.func k27) #[] C27, .func (.func k32) #[] C32, .func (.func k37) #[] C37] 139)) ?_ (alloc_on' _ _) (pr_mk (p := .row 3 (fun k => if k = 0 then onA was t else if k = 1 then prtF was.sport t.sport else prtF was.dport t.dport)) (by kernel_rfl) ⟨u.heap.size, rfl, steps3 (row_new u [.func (.func k27) #[] C27, .func (.func k32) #[] C32, .func (.func k37) #[] C37] 139) (s27.on (alloc_on' _ _)) (s32.on (alloc_on' _ _)) (s37.on (alloc_on' _ _))⟩)⟩
    simp [Act.eval, q27, q32, q37, go_sem]
   | 12, ho =>
    obtain rfl := Option.some.inj ho
    obtain ⟨g38, d38, s38⟩ : ∃ g, bx.tmps.getD 38 undef = .slice (some ⟨g, 0, none⟩) 3 3 ∧ Steps u g 3 (fun k => if k = 0 then onA was t else if k = 1 then prtF was.sport t.sport else prtF was.dport t.dport) := of_row (hdeps 11 38 (by kernel_rfl) (by kernel_rfl)) (by kernel_rfl)
    refine .inl ⟨rfl, yields_pr (f := 94) (args := #[.slice (some ⟨g38, 0, none⟩) 3 3]) ?_ ((chain_any g38 3 _ u (by decide) s38).mono fun e u' ⟨v, he, hs, hb⟩ => ⟨v, he, hb, pr_mk (p := .step (onP was t)) (by kernel_rfl) hs⟩)⟩
    simp [Act.eval, d38, go_sem]
   | 13, ho =>
    obtain rfl := Option.some.inj ho
    obtain ⟨v39, d39, s39⟩ : ∃ v, bx.tmps.getD 39 undef = v ∧ IsStep u v (onP was t) := ⟨_, rfl, of_step (hdeps 12 39 (by kernel_rfl) (by kernel_rfl)) (by kernel_rfl)⟩
    refine .inl ⟨rfl, yields_value (v := v39) (u' := u) ?_ (Below.refl _ _) (pr_mk (p := .step (onP was t)) (by kernel_rfl) s39)⟩
    simp [execOp, Act.eval, d39]
   | n + 14, ho => exact absurd ho (by simp)
  case fin =>
   intro xs u hlen hbel hF
   obtain ⟨x0, x1, x2, x3, x4, x5, x6, x7, x8, x9, x10, x11, x12, x13, rfl⟩ := list14 (l := xs) hlen
   obtain rfl : x1 = (.pointer (some ⟨w.heap.size, 3, none⟩)) := of_val (hF 1 28 (by decide) (by kernel_rfl)) (by kernel_rfl)
   obtain rfl : x2 = (.int .i64 was.sport) := of_val (hF 2 29 (by decide) (by kernel_rfl)) (by kernel_rfl)
   obtain rfl : x3 = (.pointer (some ⟨w.heap.size + 1, 2, none⟩)) := of_val (hF 3 30 (by decide) (by kernel_rfl)) (by kernel_rfl)
   obtain rfl : x4 = (.int .i64 t.sport) := of_val (hF 4 31 (by decide) (by kernel_rfl)) (by kernel_rfl)
   obtain rfl : x6 = (.pointer (some ⟨w.heap.size, 4, none⟩)) := of_val (hF 6 33 (by decide) (by kernel_rfl)) (by kernel_rfl)
   obtain rfl : x7 = (.int .i64 was.dport) := of_val (hF 7 34 (by decide) (by kernel_rfl)) (by kernel_rfl)
   obtain rfl : x8 = (.pointer (some ⟨w.heap.size + 1, 3, none⟩)) := of_val (hF 8 35 (by decide) (by kernel_rfl)) (by kernel_rfl)
   obtain rfl : x9 = (.int .i64 t.dport) := of_val (hF 9 36 (by decide) (by kernel_rfl)) (by kernel_rfl)
   have hstep : IsStep u x13 (onP was t) := of_step (hF 13 10 (by decide) (by kernel_rfl)) (by kernel_rfl)
   clear hF hlen
   simp [putAll, dstAt, Act.put]
   replace rt := rt.on' (pdrew hbel)
   replace re := re.on' (pdrew hbel)
   replace sa := sa.on (pdrew hbel)
   replace bel := Below.then bel (pdrew hbel)
   have sq := hstep
   clear hbel hstep
   have c0 := rt.cell 0 _ rfl
   by_cases h17 : was.proto = 17
   ·have t17 : (was.proto == 17) = true := by simpa using h17
    have hE : onE was t = udpF (onP was t) := if_pos h17
    rw [hE] at HGB
    have HT := hide h17
    clear h17 hE
    go_wp2_with fail
    refine (unlessNone_any _ _ _ sq).mono ?_
    rintro e u3 ⟨vq, rfl, sq3, hb⟩
    replace re := re.on' hb
    replace rt := rt.on' hb
    have c0 := rt.cell 0 _ rfl
    replace sa := sa.on hb
    replace bel := Below.then bel hb
    clear hb sq
    go_wp2_with fail
    refine (unhide HPL _).mono ?_
    rintro e u6 ⟨rfl, hb⟩
    replace re := re.on' hb
    replace sa := sa.on hb
    have sp := (sq3).on hb
    replace bel := Below.then bel hb
    clear hb rt
    go_wp2_with fail
    refine wp_region_grow (by kernel_rfl) [.string q, .int .i64 z, .string H, .pointer (some ⟨w.heap.size + 1, 0, none⟩), .int .u32 t.src, .pointer (some ⟨w.heap.size + 1, 1, none⟩), .int .u32 t.dst, .string HA, .string HA] (by kernel_rfl) ?op ?fin
    case op =>
     intro i o bx u ho hbel hS
     match i, ho with
     | 0, ho =>
      obtain rfl := Option.some.inj ho
      have d0 : bx.tmps.getD 0 undef = .string q := hS.base 0
      refine .inl ⟨rfl, ends_value' (c := .string q) ?_⟩
      simp [execOp, Act.eval, d0]
     | 1, ho =>
      obtain rfl := Option.some.inj ho
      have d1 : bx.tmps.getD 1 undef = .int .i64 z := hS.base 1
      refine .inl ⟨rfl, ends_value' (c := .int .i64 z) ?_⟩
      simp [execOp, Act.eval, d1]
     | 2, ho =>
      obtain rfl := Option.some.inj ho
      have d51 : bx.tmps.getD 51 undef = .string q := hS.dep 0 51
      have d52 : bx.tmps.getD 52 undef = .int .i64 z := hS.dep 1 52
      refine .inl ⟨rfl, ends_value' (c := .string H) ?_⟩
      simp [Act.eval, d51, d52, go_sem, hH, hz0, hz1]
     | 3, ho =>
      obtain rfl := Option.some.inj ho
      have d7 : bx.tmps.getD 7 undef = .pointer (some ⟨w.heap.size + 1, 0, none⟩) := hS.base 7
      refine .inl ⟨rfl, ends_value' (c := .pointer (some ⟨w.heap.size + 1, 0, none⟩)) ?_⟩
      simp [Act.eval, d7, go_sem]
     | 4, ho =>
      obtain rfl := Option.some.inj ho
      have d54 : bx.tmps.getD 54 undef = .pointer (some ⟨w.heap.size + 1, 0, none⟩) := hS.dep 3 54
      have hl := ((re.on' (pdrew hbel)).cell 0 _ rfl)
      refine .inl ⟨rfl, ends_value' (c := .int .u32 t.src) ?_⟩
      simp [Act.eval, d54, go_sem, hl]
     | 5, ho =>
      obtain rfl := Option.some.inj ho
      have d7 : bx.tmps.getD 7 undef = .pointer (some ⟨w.heap.size + 1, 0, none⟩) := hS.base 7
      refine .inl ⟨rfl, ends_value' (c := .pointer (some ⟨w.heap.size + 1, 1, none⟩)) ?_⟩
      simp [Act.eval, d7, go_sem]
     | 6, ho =>
      obtain rfl := Option.some.inj ho
      have d56 : bx.tmps.getD 56 undef = .pointer (some ⟨w.heap.size + 1, 1, none⟩) := hS.dep 5 56
      have hl := ((re.on' (pdrew hbel)).cell 1 _ rfl)
      refine .inl ⟨rfl, ends_value' (c := .int .u32 t.dst) ?_⟩
      simp [Act.eval, d56, go_sem, hl]
     | 7, ho =>
      obtain rfl := Option.some.inj ho
      have d53 : bx.tmps.getD 53 undef = .string H := hS.dep 2 53
      have d55 : bx.tmps.getD 55 undef = .int .u32 t.src := hS.dep 4 55
      have d57 : bx.tmps.getD 57 undef = .int .u32 t.dst := hS.dep 6 57
      refine .inl ⟨rfl, ends_call' (c := .string HA) (f := 49) (args := #[.string H, .int .u32 t.src, .int .u32 t.dst]) ?_ (unhide HWA u)⟩
      simp [Act.eval, d53, d55, d57, go_sem]
     | 8, ho =>
      obtain rfl := Option.some.inj ho
      have d58 : bx.tmps.getD 58 undef = .string HA := hS.dep 7 58
      refine .inl ⟨rfl, ends_value' (c := .string HA) ?_⟩
      simp [execOp, Act.eval, d58]
     | n + 9, ho => exact absurd ho (by simp)
    case fin =>
     intro u hbel
     simp [putAll, dstAt, Act.put]
     replace re := re.on' (pdrew hbel)
     replace sa := sa.on (pdrew hbel)
     replace sp := sp.on (pdrew hbel)
     replace bel := Below.then bel (pdrew hbel)
     clear hbel
     go_wp2_with fail
     refine wp_region_grow (by kernel_rfl) [.string q, .int .i64 z, .string R, t.val, .string RA, .string RA] (by kernel_rfl) ?op ?fin
     case op =>
      intro i o bx u ho hbel hS
      match i, ho with
      | 0, ho =>
       obtain rfl := Option.some.inj ho
       have d0 : bx.tmps.getD 0 undef = .string q := hS.base 0
       refine .inl ⟨rfl, ends_value' (c := .string q) ?_⟩
       simp [execOp, Act.eval, d0]
      | 1, ho =>
       obtain rfl := Option.some.inj ho
       have d1 : bx.tmps.getD 1 undef = .int .i64 z := hS.base 1
       refine .inl ⟨rfl, ends_value' (c := .int .i64 z) ?_⟩
       simp [execOp, Act.eval, d1]
      | 2, ho =>
       obtain rfl := Option.some.inj ho
       have d59 : bx.tmps.getD 59 undef = .string q := hS.dep 0 59
       have d60 : bx.tmps.getD 60 undef = .int .i64 z := hS.dep 1 60
       refine .inl ⟨rfl, ends_value' (c := .string R) ?_⟩
       simp [Act.eval, d59, d60, go_sem, hR, hz0, hz1]
      | 3, ho =>
       obtain rfl := Option.some.inj ho
       have d7 : bx.tmps.getD 7 undef = .pointer (some ⟨w.heap.size + 1, 0, none⟩) := hS.base 7
       refine .inl ⟨rfl, ends_value' (c := t.val) ?_⟩
       simp [Act.eval, d7, go_sem, ((re.on' (pdrew hbel)).cell 0 _ rfl), ((re.on' (pdrew hbel)).cell 1 _ rfl), ((re.on' (pdrew hbel)).cell 2 _ rfl), ((re.on' (pdrew hbel)).cell 3 _ rfl)]
      | 4, ho =>
       obtain rfl := Option.some.inj ho
       have d61 : bx.tmps.getD 61 undef = .string R := hS.dep 2 61
       have d62 : bx.tmps.getD 62 undef = t.val := hS.dep 3 62
       refine .inl ⟨rfl, ends_call' (c := .string RA) (f := 52) (args := #[.string R, t.val]) ?_ (unhide HWP u)⟩
       simp [Act.eval, d61, d62, go_sem]
      | 5, ho =>
       obtain rfl := Option.some.inj ho
       have d63 : bx.tmps.getD 63 undef = .string RA := hS.dep 4 63
       refine .inl ⟨rfl, ends_value' (c := .string RA) ?_⟩
       simp [execOp, Act.eval, d63]
      | n + 6, ho => exact absurd ho (by simp)
     case fin =>
      intro u hbel
      simp [putAll, dstAt, Act.put]
      replace sa := sa.on (pdrew hbel)
      replace sp := sp.on (pdrew hbel)
      replace bel := Below.then bel (pdrew hbel)
      clear hbel re
      go_wp2_with fail
      refine (unhide HGA _ _ sa).mono ?_
      rintro e u8 ⟨rfl, hb⟩
      replace sp := sp.on hb
      replace bel := Below.then bel hb
      clear hb sa
      go_wp2_with fail
      refine (unhide HGB _ _ sp).mono ?_
      rintro e u9 ⟨rfl, hb⟩
      replace bel := Below.then bel hb
      clear hb sp
      go_wp2_with fail
      go_ret
      exact ⟨ret_str' (unhide HS).symm, bel⟩
   ·have t17 : (was.proto == 17) = false := by simpa using h17
    have hE : onE was t = onP was t := if_neg h17
    rw [hE] at HGB
    have HT := hide h17
    clear h17 hE
    go_wp2_with fail
    refine (unhide HPL _).mono ?_
    rintro e u6 ⟨rfl, hb⟩
    replace re := re.on' hb
    replace sa := sa.on hb
    have sp := (sq).on hb
    replace bel := Below.then bel hb
    clear hb rt
    go_wp2_with fail
    refine wp_region_grow (by kernel_rfl) [.string q, .int .i64 z, .string H, .pointer (some ⟨w.heap.size + 1, 0, none⟩), .int .u32 t.src, .pointer (some ⟨w.heap.size + 1, 1, none⟩), .int .u32 t.dst, .string HA, .string HA] (by kernel_rfl) ?op ?fin
    case op =>
     intro i o bx u ho hbel hS
     match i, ho with
     | 0, ho =>
      obtain rfl := Option.some.inj ho
      have d0 : bx.tmps.getD 0 undef = .string q := hS.base 0
      refine .inl ⟨rfl, ends_value' (c := .string q) ?_⟩
      simp [execOp, Act.eval, d0]
     | 1, ho =>
      obtain rfl := Option.some.inj ho
      have d1 : bx.tmps.getD 1 undef = .int .i64 z := hS.base 1
      refine .inl ⟨rfl, ends_value' (c := .int .i64 z) ?_⟩
      simp [execOp, Act.eval, d1]
     | 2, ho =>
      obtain rfl := Option.some.inj ho
      have d51 : bx.tmps.getD 51 undef = .string q := hS.dep 0 51
      have d52 : bx.tmps.getD 52 undef = .int .i64 z := hS.dep 1 52
      refine .inl ⟨rfl, ends_value' (c := .string H) ?_⟩
      simp [Act.eval, d51, d52, go_sem, hH, hz0, hz1]
     | 3, ho =>
      obtain rfl := Option.some.inj ho
      have d7 : bx.tmps.getD 7 undef = .pointer (some ⟨w.heap.size + 1, 0, none⟩) := hS.base 7
      refine .inl ⟨rfl, ends_value' (c := .pointer (some ⟨w.heap.size + 1, 0, none⟩)) ?_⟩
      simp [Act.eval, d7, go_sem]
     | 4, ho =>
      obtain rfl := Option.some.inj ho
      have d54 : bx.tmps.getD 54 undef = .pointer (some ⟨w.heap.size + 1, 0, none⟩) := hS.dep 3 54
      have hl := ((re.on' (pdrew hbel)).cell 0 _ rfl)
      refine .inl ⟨rfl, ends_value' (c := .int .u32 t.src) ?_⟩
      simp [Act.eval, d54, go_sem, hl]
     | 5, ho =>
      obtain rfl := Option.some.inj ho
      have d7 : bx.tmps.getD 7 undef = .pointer (some ⟨w.heap.size + 1, 0, none⟩) := hS.base 7
      refine .inl ⟨rfl, ends_value' (c := .pointer (some ⟨w.heap.size + 1, 1, none⟩)) ?_⟩
      simp [Act.eval, d7, go_sem]
     | 6, ho =>
      obtain rfl := Option.some.inj ho
      have d56 : bx.tmps.getD 56 undef = .pointer (some ⟨w.heap.size + 1, 1, none⟩) := hS.dep 5 56
      have hl := ((re.on' (pdrew hbel)).cell 1 _ rfl)
      refine .inl ⟨rfl, ends_value' (c := .int .u32 t.dst) ?_⟩
      simp [Act.eval, d56, go_sem, hl]
     | 7, ho =>
      obtain rfl := Option.some.inj ho
      have d53 : bx.tmps.getD 53 undef = .string H := hS.dep 2 53
      have d55 : bx.tmps.getD 55 undef = .int .u32 t.src := hS.dep 4 55
      have d57 : bx.tmps.getD 57 undef = .int .u32 t.dst := hS.dep 6 57
      refine .inl ⟨rfl, ends_call' (c := .string HA) (f := 49) (args := #[.string H, .int .u32 t.src, .int .u32 t.dst]) ?_ (unhide HWA u)⟩
      simp [Act.eval, d53, d55, d57, go_sem]
     | 8, ho =>
      obtain rfl := Option.some.inj ho
      have d58 : bx.tmps.getD 58 undef = .string HA := hS.dep 7 58
      refine .inl ⟨rfl, ends_value' (c := .string HA) ?_⟩
      simp [execOp, Act.eval, d58]
     | n + 9, ho => exact absurd ho (by simp)
    case fin =>
     intro u hbel
     simp [putAll, dstAt, Act.put]
     replace re := re.on' (pdrew hbel)
     replace sa := sa.on (pdrew hbel)
     replace sp := sp.on (pdrew hbel)
     replace bel := Below.then bel (pdrew hbel)
     clear hbel
     go_wp2_with fail
     refine wp_region_grow (by kernel_rfl) [.string q, .int .i64 z, .string R, t.val, .string RA, .string RA] (by kernel_rfl) ?op ?fin
     case op =>
      intro i o bx u ho hbel hS
      match i, ho with
      | 0, ho =>
       obtain rfl := Option.some.inj ho
       have d0 : bx.tmps.getD 0 undef = .string q := hS.base 0
       refine .inl ⟨rfl, ends_value' (c := .string q) ?_⟩
       simp [execOp, Act.eval, d0]
      | 1, ho =>
       obtain rfl := Option.some.inj ho
       have d1 : bx.tmps.getD 1 undef = .int .i64 z := hS.base 1
       refine .inl ⟨rfl, ends_value' (c := .int .i64 z) ?_⟩
       simp [execOp, Act.eval, d1]
      | 2, ho =>
       obtain rfl := Option.some.inj ho
       have d59 : bx.tmps.getD 59 undef = .string q := hS.dep 0 59
       have d60 : bx.tmps.getD 60 undef = .int .i64 z := hS.dep 1 60
       refine .inl ⟨rfl, ends_value' (c := .string R) ?_⟩
       simp [Act.eval, d59, d60, go_sem, hR, hz0, hz1]
      | 3, ho =>
       obtain rfl := Option.some.inj ho
       have d7 : bx.tmps.getD 7 undef = .pointer (some ⟨w.heap.size + 1, 0, none⟩) := hS.base 7
       refine .inl ⟨rfl, ends_value' (c := t.val) ?_⟩
       simp [Act.eval, d7, go_sem, ((re.on' (pdrew hbel)).cell 0 _ rfl), ((re.on' (pdrew hbel)).cell 1 _ rfl), ((re.on' (pdrew hbel)).cell 2 _ rfl), ((re.on' (pdrew hbel)).cell 3 _ rfl)]
      | 4, ho =>
       obtain rfl := Option.some.inj ho
       have d61 : bx.tmps.getD 61 undef = .string R := hS.dep 2 61
       have d62 : bx.tmps.getD 62 undef = t.val := hS.dep 3 62
       refine .inl ⟨rfl, ends_call' (c := .string RA) (f := 52) (args := #[.string R, t.val]) ?_ (unhide HWP u)⟩
       simp [Act.eval, d61, d62, go_sem]
      | 5, ho =>
       obtain rfl := Option.some.inj ho
       have d63 : bx.tmps.getD 63 undef = .string RA := hS.dep 4 63
       refine .inl ⟨rfl, ends_value' (c := .string RA) ?_⟩
       simp [execOp, Act.eval, d63]
      | n + 6, ho => exact absurd ho (by simp)
     case fin =>
      intro u hbel
      simp [putAll, dstAt, Act.put]
      replace sa := sa.on (pdrew hbel)
      replace sp := sp.on (pdrew hbel)
      replace bel := Below.then bel (pdrew hbel)
      clear hbel re
      go_wp2_with fail
      refine (unhide HGA _ _ sa).mono ?_
      rintro e u8 ⟨rfl, hb⟩
      replace sp := sp.on hb
      replace bel := Below.then bel hb
      clear hb sa
      go_wp2_with fail
      refine (unhide HGB _ _ sp).mono ?_
      rintro e u9 ⟨rfl, hb⟩
      replace bel := Below.then bel hb
      clear hb sp
      go_wp2_with fail
      go_ret
      exact ⟨ret_str' (unhide HS).symm, bel⟩
end Go.Proofs.YtpjaajeojiaeiaaGreatDoor

/- What outer, segment and message of package patch do. -/
namespace Go.Proofs.YtpjaajeojiaeiaaGreatDoor
open Go.ChangeShapes Go.WideShapes Go.ChangeAt Go.RowKit

set_option maxRecDepth 100000 in
set_option maxHeartbeats 2000000 in
theorem pouter_any (s : ByteArray) (ttl src dst : Int) (w : World) (hs : s.size ≤ 281474976710656) (hS : Ps.U32 src) (hD : Ps.U32 dst) :
  Calls Tryz.prog 23 #[.string s, .int .i64 ttl, .int .u32 src, .int .u32 dst] w fun e w' => e = .returned (.string (outerS s ttl src dst)) ∧ Below w.heap.size w w' := by
 have z1 := addrS_le s src dst
 have z2 := out0S_le s ttl src dst
 have HA := hide (fun u => withAddresses_any s src dst u hs hS hD)
 have HW := hide (fun (W : World) (t : TypeId) => with_any (addrS s src dst) W.heap.size 2 _ (W.alloc (.cells #[.int .i64 8, .int .i64 1, .int .i64 ttl, .int .i64 10, .int .i64 2, .int .i64 0] t)) (by omega) (by decide) (nums2 (row_new W [.int .i64 8, .int .i64 1, .int .i64 ttl, .int .i64 10, .int .i64 2, .int .i64 0] t)))
 have E1 : Hid (wth (addrS s src dst) (fun k => if k = 0 then ((8 : Int), (1 : Int), ttl) else (10, 2, 0)) 2 = out0S s ttl src dst) := rfl
 rw [E1.out] at HW
 have HC := hide (fun u => check_any (out0S s ttl src dst) u (by omega))
 obtain ⟨K, hK⟩ : ∃ K : Int, 65535 - Ck.sum (out0S s ttl src dst).data.toList = K := ⟨_, rfl⟩
 have k0 : 0 ≤ K := by have := Ck.sum_hi (out0S s ttl src dst).data.toList; omega
 have k1 : K ≤ 65535 := by have := Ck.sum_lo (out0S s ttl src dst).data.toList; omega
 have HO : Hid (set (out0S s ttl src dst) 10 2 K = outerS s ttl src dst) := by rw [← hK]; rfl
 rw [hK] at HC
 have HX := hide (fun (W : World) (t : TypeId) => with_any (out0S s ttl src dst) W.heap.size 1 _ (W.alloc (.cells #[.int .i64 10, .int .i64 2, .int .i64 K] t)) (by omega) (by decide) (nums1 (row_new W [.int .i64 10, .int .i64 2, .int .i64 K] t)))
 have E2 : Hid (wth (out0S s ttl src dst) (fun _ => ((10 : Int), (2 : Int), K)) 1 = set (out0S s ttl src dst) 10 2 K) := rfl
 rw [E2.out, HO.out] at HX
 have kw : IntKind.i64.wrap K = K := Oct.wraps_i64 _ k0 (by omega)
 clear hK z1 z2 E1 E2 HO
 generalize outerS s ttl src dst = O at *
 generalize out0S s ttl src dst = X at *
 generalize addrS s src dst = A at *
 go_enter Tryz.func23, Tryz.ntmps23
 go_wp2_with fail
 refine (unhide HA _).mono ?_
 rintro e w1 ⟨rfl, b1⟩
 have HB1 := hide b1
 clear b1
 go_wp2_with fail
 refine (unhide HW _ _).mono ?_
 rintro e w2 ⟨rfl, b2⟩
 have HB2 := hide (Below.then (Below.then (unhide HB1) (alloc_on' _ _)) b2)
 clear b2
 go_wp2_with fail
 refine (unhide HC _).mono ?_
 rintro e w3 ⟨rfl, b3⟩
 have HB3 := hide (Below.then (unhide HB2) b3)
 clear b3
 go_wp2_with fail
 refine (unhide HX _ _).mono ?_
 rintro e w4 ⟨rfl, b4⟩
 have HB4 := hide (Below.then (Below.then (unhide HB3) (alloc_on' _ _)) b4)
 clear b4
 go_wp2_with fail
 go_ret
 exact ⟨rfl, unhide HB4⟩

/-- A whole segment between these ends. -/
def bare (p : Int) (s : ByteArray) : Bool := (p == 17) && (got s 6 2 == 0)
def segT (s : ByteArray) (p : Int) (t : En) : ByteArray := if bare p (portS s t.sport t.dport) = true then portS s t.sport t.dport else Ps.fillS p t.src t.dst (portS s t.sport t.dport)
theorem segT_le (s : ByteArray) (p : Int) (t : En) : (segT s p t).size ≤ s.size := by
 unfold segT
 split
 ·exact portS_le _ _ _
 ·exact Nat.le_trans (Ps.fillS_size _ _ _ _) (portS_le _ _ _)
set_option maxRecDepth 100000 in
set_option maxHeartbeats 2000000 in
theorem psegment_any (s : ByteArray) (p : Int) (t : En) (w : World) (hs : s.size ≤ 140737488360000) (hp : Ps.I64 p) (hT : Ps.U32 t.src ∧ Ps.U32 t.dst) :
  Calls Tryz.prog 24 #[.string s, .int .i64 p, t.val] w fun e w' => e = .returned (.string (segT s p t)) ∧ Below w.heap.size w w' := by
 have z1 := portS_le s t.sport t.dport
 have HP := hide (fun u => withPorts_any s t u (by omega))
 have HC := hide (fun u => checkless_any (portS s t.sport t.dport) u (by omega))
 have HF := hide (fun u => Ps.pfill_any p t.src t.dst (portS s t.sport t.dport) u hp hT.1 hT.2 (by omega))
 have HS : Hid (segT s p t = if ((p == 17) && (got (portS s t.sport t.dport) 6 2 == 0)) = true then portS s t.sport t.dport else Ps.fillS p t.src t.dst (portS s t.sport t.dport)) := rfl
 have r0 := row_new w t.cells 27
 have b0 := alloc_on' w (.cells t.cells.toArray 27)
 clear z1
 generalize segT s p t = SS at *
 generalize Ps.fillS p t.src t.dst (portS s t.sport t.dport) = FS at *
 generalize Ps.fillB p t.src t.dst (portS s t.sport t.dport) = FB at *
 generalize got (portS s t.sport t.dport) 6 2 = G at *
 generalize portS s t.sport t.dport = A at *
 have HR := hide (And.intro r0 b0)
 clear r0 b0
 by_cases h17 : p = 17
 ·subst h17
  by_cases h0 : G = 0
  ·have HX : Hid (SS = A) := by rw [HS.out, h0]; rfl
   have t0 : (G == 0) = true := by simpa using h0
   rw [t0] at HC
   have H0 := hide h0
   clear h0
   have c0 := ((unhide HR).1).cell 0 _ rfl
   go_enter Tryz.func24, Tryz.ntmps24
   go_wp2_with fail
   refine (unhide HP _).mono ?_
   rintro e w1 ⟨rfl, hb⟩
   have HB1 := hide (Below.then (unhide HR).2 hb)
   clear hb
   go_wp2_with fail
   refine (unhide HC _).mono ?_
   rintro e w2 ⟨rfl, hb⟩
   have HB2 := hide (Below.then (unhide HB1) hb)
   clear hb
   go_wp2_with fail
   go_ret
   exact ⟨ret_str' HX.out.symm, unhide HB2⟩
  ·have t0 : (G == 0) = false := by simpa using h0
   have HX : Hid (SS = FS) := by rw [HS.out, t0]; rfl
   rw [t0] at HC
   have H0 := hide h0
   clear h0
   go_enter Tryz.func24, Tryz.ntmps24
   go_wp2_with fail
   refine (unhide HP _).mono ?_
   rintro e w1 ⟨rfl, hb⟩
   obtain ⟨r0, b0⟩ := unhide HR
   replace r0 := r0.on' hb
   have HR := hide (And.intro r0 (Below.then b0 hb))
   clear hb r0 b0
   go_wp2_with fail
   refine (unhide HC _).mono ?_
   rintro e w2 ⟨rfl, hb⟩
   obtain ⟨r0, b0⟩ := unhide HR
   replace r0 := r0.on' hb
   have c0 := r0.cell 0 _ rfl
   have c1 := r0.cell 1 _ rfl
   have HB2 := hide (Below.then b0 hb)
   clear hb r0 b0
   go_wp2_with fail
   refine (unhide HF _).mono ?_
   rintro e w3 ⟨rfl, hb⟩
   have HB3 := hide (Below.then (unhide HB2) hb)
   clear hb
   go_wp2_with fail
   go_ret
   exact ⟨ret_str' HX.out.symm, unhide HB3⟩
 ·have t17 : (p == 17) = false := by simpa using h17
  have HX : Hid (SS = FS) := by rw [HS.out, t17]; rfl
  have H17 := hide h17
  clear h17
  go_enter Tryz.func24, Tryz.ntmps24
  go_wp2_with fail
  refine (unhide HP _).mono ?_
  rintro e w1 ⟨rfl, hb⟩
  obtain ⟨r0, b0⟩ := unhide HR
  replace r0 := r0.on' hb
  have c0 := r0.cell 0 _ rfl
  have c1 := r0.cell 1 _ rfl
  have HB1 := hide (Below.then b0 hb)
  clear hb r0 b0
  go_wp2_with fail
  refine (unhide HF _).mono ?_
  rintro e w3 ⟨rfl, hb⟩
  have HB3 := hide (Below.then (unhide HB1) hb)
  clear hb
  go_wp2_with fail
  go_ret
  exact ⟨ret_str' HX.out.symm, unhide HB3⟩

end Go.Proofs.YtpjaajeojiaeiaaGreatDoor

/- What message of package patch does. -/
namespace Go.Proofs.YtpjaajeojiaeiaaGreatDoor
open Go.ChangeShapes Go.WideShapes Go.ChangeAt Go.RowKit

/-- The message, about another packet. -/
def msgH (s : ByteArray) (p : Pk) (t : En) : Ic.Hd := ⟨(Ic.parseH s).kind, (Ic.parseH s).code, (Ic.parseH s).rest, quoS (Ic.parseH s).body (p.inner - p.quote) p.tup t⟩
def msgT (s : ByteArray) (p : Pk) (t : En) : ByteArray := Ic.buildS (msgH s p t)
theorem quoS_le (q : ByteArray) (z : Int) (was : Tp) (t : En) : (quoS q z was t).size ≤ q.size + q.size := by
 have h1 := quoA_le q z was t
 have h2 := quoB_le q z was t
 unfold quoS
 rw [ByteArray.size_append]; omega
theorem parseH_body (s : ByteArray) : (Ic.parseH s).body.size ≤ s.size := by
 unfold Ic.parseH
 split
 ·show (s.extract 8 s.size).size ≤ _
  rw [ByteArray.size_extract]; omega
 ·exact Nat.zero_le _
theorem parseH_wf (s : ByteArray) : (-9223372036854775808 ≤ (Ic.parseH s).kind ∧ (Ic.parseH s).kind ≤ 9223372036854775807) ∧ (-9223372036854775808 ≤ (Ic.parseH s).code ∧ (Ic.parseH s).code ≤ 9223372036854775807) ∧ (0 ≤ (Ic.parseH s).rest ∧ (Ic.parseH s).rest ≤ 4294967295) := by
 have h0 := Ic.got_lo s 0 1
 have h1 := Ic.got_lo s 1 1
 have h2 := Ic.got_lo s 4 4
 have h3 := Ic.got_hi1 s 0
 have h4 := Ic.got_hi1 s 1
 have h5 := Ic.got_hi4 s 4
 unfold Ic.parseH
 split
 ·refine ⟨?_, ?_, ?_⟩
  ·show _ ≤ got s 0 1 ∧ got s 0 1 ≤ _; omega
  ·show _ ≤ got s 1 1 ∧ got s 1 1 ≤ _; omega
  ·show _ ≤ got s 4 4 ∧ got s 4 4 ≤ _; omega
 ·exact ⟨by decide, by decide, by decide⟩
theorem msgH_wf (s : ByteArray) (p : Pk) (t : En) (hs : s.size ≤ 100000000) : (msgH s p t).Wf := by
 have zb := parseH_body s
 have zq := quoS_le (Ic.parseH s).body (p.inner - p.quote) p.tup t
 obtain ⟨w1, w2, w3⟩ := parseH_wf s
 unfold msgH
 generalize quoS (Ic.parseH s).body (p.inner - p.quote) p.tup t = Q at *
 generalize (Ic.parseH s).kind = k at *
 generalize (Ic.parseH s).code = c at *
 generalize (Ic.parseH s).rest = r at *
 exact ⟨w1, w2, w3, by show Q.size ≤ _; omega⟩
set_option maxRecDepth 100000 in
set_option maxHeartbeats 2000000 in
theorem pmessage_any (s : ByteArray) (p : Pk) (t : En) (w : World) (hs : s.size ≤ 100000000) (hz0 : 0 ≤ p.inner - p.quote) (hz1 : p.inner - p.quote ≤ (Ic.parseH s).body.size) (hi : 0 ≤ p.inner ∧ p.inner ≤ 100000000) (hq : 0 ≤ p.quote ∧ p.quote ≤ 100000000) (hA : Ps.U32 p.tup.src ∧ Ps.U32 p.tup.dst) (hT : Ps.U32 t.src ∧ Ps.U32 t.dst) (hP : (0 ≤ p.tup.sport ∧ p.tup.sport ≤ 65535) ∧ (0 ≤ p.tup.dport ∧ p.tup.dport ≤ 65535)) (hQ : (0 ≤ t.sport ∧ t.sport ≤ 65535) ∧ (0 ≤ t.dport ∧ t.dport ≤ 65535)) (hI : Ps.I64 p.tup.proto) :
  Calls Tryz.prog 30 #[.string s, p.val, t.val] w fun e w' => e = .returned (.string (msgT s p t)) ∧ Below w.heap.size w w' := by
 have zb := parseH_body s
 have zq := quoS_le (Ic.parseH s).body (p.inner - p.quote) p.tup t
 obtain ⟨w1, w2, w3⟩ := parseH_wf s
 have HP := hide (fun u => Ic.parse_any s u (by omega))
 have HB := hide (fun u => Ic.build_any (msgH s p t) u (msgH_wf s p t hs))
 have HQ := hide (fun u => quote_any (Ic.parseH s).body (p.inner - p.quote) p.tup t u (by omega) hz0 hz1 hA hT hP hQ hI)
 have HM : Hid (msgT s p t = Ic.buildS (msgH s p t)) := rfl
 obtain ⟨M, hM⟩ : ∃ M, msgT s p t = M := ⟨_, rfl⟩
 rw [← HM.out, hM] at HB
 have HV : Hid ((msgH s p t).val = .agg #[.int .i64 (Ic.parseH s).kind, .int .i64 (Ic.parseH s).code, .int .u32 (Ic.parseH s).rest, .string (quoS (Ic.parseH s).body (p.inner - p.quote) p.tup t)]) := by unfold Hid; simp only [msgH]
 rw [HV.out] at HB
 have HM2 := hide hM
 generalize quoS (Ic.parseH s).body (p.inner - p.quote) p.tup t = QS at *
 obtain ⟨Z, hZ⟩ : ∃ Z, p.inner - p.quote = Z := ⟨_, rfl⟩
 rw [hZ] at HQ
 obtain ⟨i0, i1⟩ := hi
 obtain ⟨j0, j1⟩ := hq
 clear HM HV hM hz0 hz1 zb zq w1 w2 w3 hA hT hP hQ hI
 generalize Ic.buildE (msgH s p t) = ME at *
 obtain ⟨h, hh⟩ : ∃ h, Ic.parseH s = h := ⟨_, rfl⟩
 rw [hh] at HP HB HQ
 have HH := hide hh
 clear hh
 have r1 := (row_new w p.cells 45).on' (alloc_on' _ (.cells t.cells.toArray 27))
 have r2 := row_new (w.alloc (.cells p.cells.toArray 45)) t.cells 27
 have bel := Below.then (alloc_on' w (.cells p.cells.toArray 45)) (alloc_on' _ (.cells t.cells.toArray 27))
 rw [show (w.alloc (.cells p.cells.toArray 45)).heap.size = w.heap.size + 1 by simp] at r2
 have HR := hide (And.intro r1 (And.intro r2 bel))
 clear r1 r2 bel
 go_enter Tryz.func30, Tryz.ntmps30
 go_wp2_with fail
 refine (unhide HP _).mono ?_
 rintro e w3 ⟨rfl, hb⟩
 obtain ⟨r1, r2, bel⟩ := unhide HR
 have n3 := alloc_on' w3 (.cells #[.int .i64 h.kind, .int .i64 h.code, .int .u32 h.rest, .string h.body] 103)
 have r3 := row_new w3 [.int .i64 h.kind, .int .i64 h.code, .int .u32 h.rest, .string h.body] 103
 replace r1 := (r1.on' hb).on' n3
 replace r2 := (r2.on' hb).on' n3
 replace bel := Below.then bel hb
 have hgw : w.heap.size ≤ w3.heap.size := bel.size
 replace bel := Below.then bel n3
 obtain ⟨W3, e3⟩ : ∃ V, w3.alloc (.cells #[.int .i64 h.kind, .int .i64 h.code, .int .u32 h.rest, .string h.body] 103) = V := ⟨_, rfl⟩
 rw [e3] at n3 r3 r1 r2 bel
 obtain ⟨g, hg⟩ : ∃ g, w3.heap.size = g := ⟨_, rfl⟩
 rw [hg] at r3 hgw
 have m3 := r3.cell 3 _ rfl
 have p9 := r1.cell 9 _ rfl
 have p13 := r1.cell 13 _ rfl
 have p12 := r1.cell 12 _ rfl
 have p3 := r1.cell 3 _ rfl
 have p4 := r1.cell 4 _ rfl
 have p5 := r1.cell 5 _ rfl
 have p6 := r1.cell 6 _ rfl
 have p7 := r1.cell 7 _ rfl
 have t0 := r2.cell 0 _ rfl
 have t1 := r2.cell 1 _ rfl
 have t2 := r2.cell 2 _ rfl
 have t3 := r2.cell 3 _ rfl
 have HR := hide (And.intro r3 bel)
 clear r1 r2 bel r3 n3 hb
 go_wp2_with fail
 refine (unhide HQ _).mono ?_
 rintro e w4 ⟨rfl, hb⟩
 obtain ⟨r3, bel⟩ := unhide HR
 replace r3 := r3.on' hb
 replace bel := Below.then bel hb
 have m3 := r3.cell 3 _ rfl
 have f3 := r3.free 3
 have r4 := r3.set 3 (.string QS)
 have b4 := bel.setCell (p := ⟨g, 3, none⟩) hgw (.string QS)
 obtain ⟨W4, e4⟩ : ∃ V, w4.setCell ⟨g, 3, none⟩ (.string QS) = V := ⟨_, rfl⟩
 rw [e4] at r4 b4
 have q0 := r4.cell 0 _ rfl
 have q1 := r4.cell 1 _ rfl
 have q2 := r4.cell 2 _ rfl
 have q3 := r4.cell 3 _ rfl
 have HB4 := hide b4
 clear r3 bel r4 b4 hb p3 p4 p5 p6 p7 p9 p12 p13 t0 t1 t2 t3 HR
 go_wp2_with fail
 refine (unhide HB _).mono ?_
 rintro e w5 ⟨rfl, hb⟩
 have HB5 := hide (Below.then (unhide HB4) hb)
 clear hb
 go_wp2_with fail
 go_ret
 exact ⟨ret_str' (unhide HM2).symm, unhide HB5⟩
end Go.Proofs.YtpjaajeojiaeiaaGreatDoor
