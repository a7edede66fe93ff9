/- Numbers that are laid into texts, as lists of bytes (mathematics; nothing of the program). -/
import Derived.Test.YtpjaajeojiaeiaaGreatDoorPsB
import Derived.Test.YtpjaajeojiaeiaaGreatDoorPkRow
import Derived.Test.YtpjaajeojiaeiaaGreatDoorPkFirst
import Derived.Test.YtpjaajeojiaeiaaGreatDoorIcA
import Derived.Laws.EntriesVeiled
import Derived.Test.YtpjaajeojiaeiaaGreatDoorRg
import Derived.Test.YtpjaajeojiaeiaaGreatDoorIcC
import Derived.Test.YtpjaajeojiaeiaaGreatDoorIcD
namespace Go.Proofs.YtpjaajeojiaeiaaGreatDoor
open Go.RowKit

theorem put_snd (a b : List UInt8) (p q k n : Nat) (h : q = a.length + p) : Oct.put (a ++ b) q k n = a ++ Oct.put b p k n := by
  subst h
  unfold Oct.put
  rw [List.take_append, List.drop_append, List.take_of_length_le (by omega), List.drop_of_length_le (by omega)]
  rw [show a.length + p - a.length = p by omega, show a.length + p + k - a.length = p + k by omega]
  simp only [List.append_assoc, List.nil_append]
theorem put_all (b : List UInt8) (k n : Nat) (C : List UInt8) (h : b.length = k) : Oct.put (b ++ C) 0 k n = Oct.be k n ++ C := by
  unfold Oct.put
  rw [List.take_zero, List.nil_append, Nat.zero_add, ← h, List.drop_left]
theorem put_mid (l A B C : List UInt8) (p k n : Nat) (h : l = A ++ (B ++ C)) (hA : A.length = p) (hB : B.length = k) : Oct.put l p k n = A ++ (Oct.be k n ++ C) := by
  rw [h, put_snd A (B ++ C) 0 p k n (by omega), put_all B k n C hB]
/-- A number that is set, as a list. -/
theorem set_list {s : ByteArray} (p k : Nat) {n : Int} (hk : 1 ≤ k ∧ k ≤ 4) (hp : p + k ≤ s.size) (h0 : 0 ≤ n) (h1 : n.toNat < 256 ^ k) : (set s p k n).data.toList = Oct.put s.data.toList p k n.toNat := by
  have hb : setB s p k n = true := by
    unfold setB
    rw [Bool.and_eq_true]
    exact ⟨(gotB_iff _ _ _).2 ⟨⟨by omega, by omega⟩, by omega, by omega⟩, (laidB_iff _ _).2 ⟨⟨by omega, by omega⟩, h0, by simpa using h1⟩⟩
  unfold set
  rw [if_pos hb]
  rfl
theorem set_size' {s : ByteArray} (p k : Nat) {n : Int} (hk : 1 ≤ k ∧ k ≤ 4) (hp : p + k ≤ s.size) (h0 : 0 ≤ n) (h1 : n.toNat < 256 ^ k) : (set s p k n).size = s.size := by
  rw [← Oct.len_eq, set_list p k hk hp h0 h1, Oct.put_length _ _ _ _ (by rw [Oct.len_eq]; exact hp), Oct.len_eq]
theorem set_le (s : ByteArray) (p k n : Int) : (set s p k n).size ≤ s.size := by
  unfold set
  split
  · rename_i h
    unfold setB at h
    rw [Bool.and_eq_true] at h
    obtain ⟨⟨h1, h2⟩, h3, h4⟩ := (gotB_iff _ _ _).1 h.1
    rw [Oct.put_size _ _ _ _ (by omega)]
    exact Nat.le_refl _
  · exact Nat.zero_le _
theorem lt1 {n : Int} (h1 : n ≤ 255) (h0 : 0 ≤ n) : n.toNat < 256 ^ 1 := by show _ < 256; omega
theorem lt2 {n : Int} (h1 : n ≤ 65535) (h0 : 0 ≤ n) : n.toNat < 256 ^ 2 := by show _ < 65536; omega
theorem lt4 {n : Int} (h1 : n ≤ 4294967295) (h0 : 0 ≤ n) : n.toNat < 256 ^ 4 := by show _ < 4294967296; omega

/-- The parts of a header: what is ahead of its life, its life, its protocol, its check, its addresses, and what stands behind. -/
structure H20 (l A T P C S D O : List UInt8) : Prop where
  all : l = A ++ (T ++ (P ++ (C ++ (S ++ (D ++ O)))))
  a : A.length = 8
  t : T.length = 1
  p : P.length = 1
  c : C.length = 2
  s : S.length = 4
  d : D.length = 4
theorem take_step (l : List UInt8) (n k : Nat) : l.drop n = (l.drop n).take k ++ l.drop (n + k) := by rw [← List.drop_drop, List.take_append_drop]
theorem h20_of (l : List UInt8) (h : 20 ≤ l.length) : H20 l (l.take 8) ((l.drop 8).take 1) ((l.drop 9).take 1) ((l.drop 10).take 2) ((l.drop 12).take 4) ((l.drop 16).take 4) (l.drop 20) := by
  refine ⟨?_, ?_, ?_, ?_, ?_, ?_, ?_⟩
  · rw [← take_step l 16 4, ← take_step l 12 4, ← take_step l 10 2, ← take_step l 9 1, ← take_step l 8 1, List.take_append_drop]
  all_goals (simp only [List.length_take, List.length_drop]; omega)
theorem H20.size {l A T P C S D O : List UInt8} (h : H20 l A T P C S D O) : l.length = 20 + O.length := by
  rw [h.all]; simp only [List.length_append, h.a, h.t, h.p, h.c, h.s, h.d]; omega
theorem H20.ttl {l A T P C S D O : List UInt8} (h : H20 l A T P C S D O) (n : Nat) : H20 (Oct.put l 8 1 n) A (Oct.be 1 n) P C S D O :=
  ⟨put_mid l A T _ 8 1 n h.all h.a h.t, h.a, Oct.be_length _ _, h.p, h.c, h.s, h.d⟩
theorem H20.check {l A T P C S D O : List UInt8} (h : H20 l A T P C S D O) (n : Nat) : H20 (Oct.put l 10 2 n) A T P (Oct.be 2 n) S D O := by
  refine ⟨?_, h.a, h.t, h.p, Oct.be_length _ _, h.s, h.d⟩
  rw [put_mid l (A ++ (T ++ P)) C (S ++ (D ++ O)) 10 2 n (by rw [h.all]; simp only [List.append_assoc]) (by simp only [List.length_append, h.a, h.t, h.p]) h.c]
  simp only [List.append_assoc]
theorem H20.src {l A T P C S D O : List UInt8} (h : H20 l A T P C S D O) (n : Nat) : H20 (Oct.put l 12 4 n) A T P C (Oct.be 4 n) D O := by
  refine ⟨?_, h.a, h.t, h.p, h.c, Oct.be_length _ _, h.d⟩
  rw [put_mid l (A ++ (T ++ (P ++ C))) S (D ++ O) 12 4 n (by rw [h.all]; simp only [List.append_assoc]) (by simp only [List.length_append, h.a, h.t, h.p, h.c]) h.s]
  simp only [List.append_assoc]
theorem H20.dst {l A T P C S D O : List UInt8} (h : H20 l A T P C S D O) (n : Nat) : H20 (Oct.put l 16 4 n) A T P C S (Oct.be 4 n) O := by
  refine ⟨?_, h.a, h.t, h.p, h.c, h.s, Oct.be_length _ _⟩
  rw [put_mid l (A ++ (T ++ (P ++ (C ++ S)))) D O 16 4 n (by rw [h.all]; simp only [List.append_assoc]) (by simp only [List.length_append, h.a, h.t, h.p, h.c, h.s]) h.d]
  simp only [List.append_assoc]
theorem H20.cut {l A T P C S D O : List UInt8} (h : H20 l A T P C S D O) (n : Nat) (hn : 20 ≤ n) : H20 (l.take n) A T P C S D (O.take (n - 20)) := by
  refine ⟨?_, h.a, h.t, h.p, h.c, h.s, h.d⟩
  have e : l = (A ++ (T ++ (P ++ (C ++ (S ++ D))))) ++ O := by rw [h.all]; simp only [List.append_assoc]
  have hl : (A ++ (T ++ (P ++ (C ++ (S ++ D))))).length = 20 := by simp only [List.length_append, h.a, h.t, h.p, h.c, h.s, h.d]
  rw [e, List.take_append, List.take_of_length_le (by omega), hl]
  simp only [List.append_assoc]
theorem H20.cut_drop {l A T P C S D O : List UInt8} (h : H20 l A T P C S D O) (n : Nat) (hn : 20 ≤ n) : l.drop n = O.drop (n - 20) := by
  have e : l = (A ++ (T ++ (P ++ (C ++ (S ++ D))))) ++ O := by rw [h.all]; simp only [List.append_assoc]
  have hl : (A ++ (T ++ (P ++ (C ++ (S ++ D))))).length = 20 := by simp only [List.length_append, h.a, h.t, h.p, h.c, h.s, h.d]
  rw [e, List.drop_append, List.drop_of_length_le (by omega), hl, List.nil_append]
/-- The addresses of a header, in a list. -/
def addrL (l : List UInt8) (s d : Nat) : List UInt8 := Oct.put (Oct.put l 12 4 s) 16 4 d
theorem H20.addr {l A T P C S D O : List UInt8} (h : H20 l A T P C S D O) (s d : Nat) : H20 (addrL l s d) A T P C (Oct.be 4 s) (Oct.be 4 d) O := (h.src s).dst d
/-- A header with another life and other addresses, with 0 for its check, and with its check. -/
def outL0 (l : List UInt8) (t s d : Nat) : List UInt8 := Oct.put (Oct.put (addrL l s d) 8 1 t) 10 2 0
def outL (l : List UInt8) (t s d : Nat) : List UInt8 := Oct.put (outL0 l t s d) 10 2 (65535 - Ck.sum (outL0 l t s d)).toNat
theorem H20.out0 {l A T P C S D O : List UInt8} (h : H20 l A T P C S D O) (t s d : Nat) : H20 (outL0 l t s d) A (Oct.be 1 t) P (Oct.be 2 0) (Oct.be 4 s) (Oct.be 4 d) O := ((h.addr s d).ttl t).check 0
theorem H20.out {l A T P C S D O : List UInt8} (h : H20 l A T P C S D O) (t s d : Nat) : H20 (outL l t s d) A (Oct.be 1 t) P (Oct.be 2 (65535 - Ck.sum (A ++ (Oct.be 1 t ++ (P ++ (Oct.be 2 0 ++ (Oct.be 4 s ++ (Oct.be 4 d ++ O))))))).toNat) (Oct.be 4 s) (Oct.be 4 d) O := by
  have g := h.out0 t s d
  unfold outL
  rw [g.all]
  have := g.check (65535 - Ck.sum (A ++ (Oct.be 1 t ++ (P ++ (Oct.be 2 0 ++ (Oct.be 4 s ++ (Oct.be 4 d ++ O))))))).toNat
  rw [g.all] at this
  exact this
/-- As the reference does it: in the whole packet, in another order. -/
def routL0 (l : List UInt8) (t s d : Nat) : List UInt8 := Oct.put (addrL (Oct.put l 8 1 t) s d) 10 2 0
def routL (l : List UInt8) (n t s d : Nat) : List UInt8 := Oct.put (routL0 l t s d) 10 2 (65535 - Ck.sum ((routL0 l t s d).take n)).toNat
theorem routL_eq (l : List UInt8) (n t s d : Nat) (hn : 20 ≤ n) (hl : n ≤ l.length) : routL l n t s d = outL (l.take n) t s d ++ l.drop n := by
  have h := h20_of l (by omega)
  generalize l.take 8 = A at h
  generalize (l.drop 8).take 1 = T at h
  generalize (l.drop 9).take 1 = P at h
  generalize (l.drop 10).take 2 = C at h
  generalize (l.drop 12).take 4 = S at h
  generalize (l.drop 16).take 4 = D at h
  generalize l.drop 20 = O at h
  have g : H20 (routL0 l t s d) A (Oct.be 1 t) P (Oct.be 2 0) (Oct.be 4 s) (Oct.be 4 d) O := ((h.ttl t).addr s d).check 0
  have gc := (g.cut n hn).all
  have hf := (h.cut n hn).out t s d
  unfold routL
  rw [gc, (g.check _).all, hf.all, h.cut_drop n hn]
  simp only [List.append_assoc, List.take_append_drop]

/-- The addresses, the outer header, the ports, in a text. -/
def addrS (s : ByteArray) (src dst : Int) : ByteArray := set (set s 12 4 src) 16 4 dst
theorem addrS_list {s : ByteArray} (h : 20 ≤ s.size) {src dst : Int} (hs : Ps.U32 src) (hd : Ps.U32 dst) : (addrS s src dst).data.toList = addrL s.data.toList src.toNat dst.toNat := by
  have h1 : (set s 12 4 src).data.toList = Oct.put s.data.toList 12 4 src.toNat := set_list 12 4 (by decide) (by omega) hs.1 (lt4 hs.2 hs.1)
  have z1 : (set s 12 4 src).size = s.size := set_size' 12 4 (by decide) (by omega) hs.1 (lt4 hs.2 hs.1)
  have h2 : (set (set s 12 4 src) 16 4 dst).data.toList = Oct.put (set s 12 4 src).data.toList 16 4 dst.toNat := set_list 16 4 (by decide) (by omega) hd.1 (lt4 hd.2 hd.1)
  unfold addrS addrL
  rw [h2, h1]
theorem addrS_size {s : ByteArray} (h : 20 ≤ s.size) {src dst : Int} (hs : Ps.U32 src) (hd : Ps.U32 dst) : (addrS s src dst).size = s.size := by
  rw [← Oct.len_eq, addrS_list h hs hd, ← Oct.len_eq]
  unfold addrL
  have := Oct.len_eq s
  rw [Oct.put_length _ _ _ _ (by rw [Oct.put_length _ _ _ _ (by omega)]; omega), Oct.put_length _ _ _ _ (by omega)]
theorem addrS_le (s : ByteArray) (src dst : Int) : (addrS s src dst).size ≤ s.size := Nat.le_trans (set_le _ _ _ _) (set_le _ _ _ _)
def out0S (s : ByteArray) (ttl src dst : Int) : ByteArray := set (set (addrS s src dst) 8 1 ttl) 10 2 0
def outerS (s : ByteArray) (ttl src dst : Int) : ByteArray := set (out0S s ttl src dst) 10 2 (65535 - Ck.sum (out0S s ttl src dst).data.toList)
theorem out0S_le (s : ByteArray) (ttl src dst : Int) : (out0S s ttl src dst).size ≤ s.size := Nat.le_trans (set_le _ _ _ _) (Nat.le_trans (set_le _ _ _ _) (addrS_le _ _ _))
theorem outerS_le (s : ByteArray) (ttl src dst : Int) : (outerS s ttl src dst).size ≤ s.size := Nat.le_trans (set_le _ _ _ _) (out0S_le _ _ _ _)
theorem outerS_list {s : ByteArray} (h : 20 ≤ s.size) {ttl src dst : Int} (ht : 0 ≤ ttl ∧ ttl ≤ 255) (hs : Ps.U32 src) (hd : Ps.U32 dst) : (outerS s ttl src dst).data.toList = outL s.data.toList ttl.toNat src.toNat dst.toNat := by
  have z0 := addrS_size h hs hd
  have l0 := addrS_list h hs hd
  unfold outL outL0 outerS out0S
  rw [← l0]
  generalize addrS s src dst = X at *
  have h1 : (set X 8 1 ttl).data.toList = Oct.put X.data.toList 8 1 ttl.toNat := set_list 8 1 (by decide) (by omega) ht.1 (lt1 ht.2 ht.1)
  have z1 : (set X 8 1 ttl).size = X.size := set_size' 8 1 (by decide) (by omega) ht.1 (lt1 ht.2 ht.1)
  rw [← h1]
  generalize set X 8 1 ttl = Y at *
  have h2 : (set Y 10 2 0).data.toList = Oct.put Y.data.toList 10 2 0 := set_list 10 2 (by decide) (by omega) (Int.le_refl 0) (by decide)
  have z2 : (set Y 10 2 0).size = Y.size := set_size' 10 2 (by decide) (by omega) (Int.le_refl 0) (by decide)
  rw [← h2]
  generalize set Y 10 2 0 = Z at *
  have c0 := Ck.sum_lo Z.data.toList
  have c1 := Ck.sum_hi Z.data.toList
  generalize Ck.sum Z.data.toList = K at *
  exact set_list 10 2 (by decide) (by omega) (by omega) (lt2 (by omega) (by omega))
/-- The two ports. -/
def portS (s : ByteArray) (a b : Int) : ByteArray := set (set s 0 2 a) 2 2 b
def portL (l : List UInt8) (a b : Nat) : List UInt8 := Oct.put (Oct.put l 0 2 a) 2 2 b
theorem portS_le (s : ByteArray) (a b : Int) : (portS s a b).size ≤ s.size := Nat.le_trans (set_le _ _ _ _) (set_le _ _ _ _)
theorem portS_list {s : ByteArray} (h : 4 ≤ s.size) {a b : Int} (ha : 0 ≤ a ∧ a ≤ 65535) (hb : 0 ≤ b ∧ b ≤ 65535) : (portS s a b).data.toList = portL s.data.toList a.toNat b.toNat := by
  have h1 : (set s 0 2 a).data.toList = Oct.put s.data.toList 0 2 a.toNat := set_list 0 2 (by decide) (by omega) ha.1 (lt2 ha.2 ha.1)
  have z1 : (set s 0 2 a).size = s.size := set_size' 0 2 (by decide) (by omega) ha.1 (lt2 ha.2 ha.1)
  have h2 : (portS s a b).data.toList = Oct.put (set s 0 2 a).data.toList 2 2 b.toNat := set_list 2 2 (by decide) (by omega) hb.1 (lt2 hb.2 hb.1)
  rw [h2, h1]
  rfl
theorem portL_eq {l : List UInt8} (h : 4 ≤ l.length) (a b : Nat) : portL l a b = Oct.be 2 a ++ (Oct.be 2 b ++ l.drop 4) := by
  unfold portL
  have e : l = l.take 2 ++ ((l.drop 2).take 2 ++ l.drop 4) := by rw [← take_step l 2 2, List.take_append_drop]
  have e2 : (l.take 2).length = 2 := by rw [List.length_take]; omega
  have e3 : ((l.drop 2).take 2).length = 2 := by rw [List.length_take, List.length_drop]; omega
  have p1 : Oct.put l 0 2 a = [] ++ (Oct.be 2 a ++ ((l.drop 2).take 2 ++ l.drop 4)) := put_mid l [] (l.take 2) _ 0 2 a (by rw [List.nil_append]; exact e) rfl e2
  rw [p1, List.nil_append]
  exact put_mid _ (Oct.be 2 a) ((l.drop 2).take 2) (l.drop 4) 2 2 b rfl (Oct.be_length _ _) e3
end Go.Proofs.YtpjaajeojiaeiaaGreatDoor

/- What with, withAddresses, withPorts, isPort and checkless of package patch do. -/
namespace Go.Proofs.YtpjaajeojiaeiaaGreatDoor
open Go.ChangeShapes Go.WideShapes Go.ChangeAt Go.RowKit

/-- A text with some numbers in their places. -/
def wth (s : ByteArray) (zs : Nat → Int × Int × Int) : Nat → ByteArray
  | 0 => s
  | k + 1 => set (wth s zs k) (zs k).1 (zs k).2.1 (zs k).2.2
theorem wth_le (s : ByteArray) (zs : Nat → Int × Int × Int) : ∀ k, (wth s zs k).size ≤ s.size
  | 0 => Nat.le_refl _
  | k + 1 => Nat.le_trans (set_le _ _ _ _) (wth_le s zs k)
/-- The cells of such a list. -/
def Nums (W : World) (g n : Nat) (zs : Nat → Int × Int × Int) : Prop := ∀ k, k < n → W.cell? ⟨g, k * 3, none⟩ = some (.int .i64 (zs k).1) ∧ W.cell? ⟨g, k * 3 + 1, none⟩ = some (.int .i64 (zs k).2.1) ∧ W.cell? ⟨g, k * 3 + 2, none⟩ = some (.int .i64 (zs k).2.2)
theorem Nums.on {W W' : World} {g n : Nat} {zs : Nat → Int × Int × Int} (h : Nums W g n zs) (hb : Below W.heap.size W W') : Nums W' g n zs := fun k hk => by
  obtain ⟨a, b, c⟩ := h k hk
  exact ⟨(hb.cell (block_lt_of_cell a)).trans a, (hb.cell (block_lt_of_cell b)).trans b, (hb.cell (block_lt_of_cell c)).trans c⟩
theorem alloc_on' (W : World) (o : Obj) : Below W.heap.size W (W.alloc o) := (Below.refl _ _).alloc (Nat.le_refl _) _

set_option maxHeartbeats 1000000 in
set_option maxRecDepth 100000 in
theorem with_any (s : ByteArray) (g n : Nat) (zs : Nat → Int × Int × Int) (w : World) (hs : s.size ≤ 281474976710656) (hn : n ≤ 100) (hz : Nums w g n zs) :
    Calls Tryz.prog 50 #[.string s, .slice (some ⟨g, 0, none⟩) n n] w fun e w' => e = .returned (.string (wth s zs n)) ∧ Below w.heap.size w w' := by
  have HZ := hide hz
  clear hz
  go_enter Tryz.func50, Tryz.ntmps50
  go_wp2
  go_loopw [0, 9] (fun t i W => ∃ k : Nat, k ≤ n ∧ i = .int .i64 k ∧ t = .string (wth s zs k) ∧ Hid (Below w.heap.size w W)) (fun _ i _ => n - (intOf i).toNat)
  case atStart => exact ⟨0, Nat.zero_le _, rfl, rfl, Below.refl _ _⟩
  case round =>
    obtain ⟨k, hk, rfl, rfl, hq⟩ := hrel
    by_cases hkn : k < n
    · obtain ⟨c0, c1, c2⟩ := (unhide HZ).on (unhide hq) k hkn
      have hle := wth_le s zs k
      have HS : Hid (set (wth s zs k) (zs k).1 (zs k).2.1 (zs k).2.2 = wth s zs (k + 1)) := rfl
      have HG := hide (fun u => set_any (wth s zs k) (zs k).1 (zs k).2.1 (zs k).2.2 u (by unfold maxLen; omega))
      rw [HS.out] at HG
      generalize wth s zs k = S at *
      generalize hS' : wth s zs (k + 1) = S' at *
      have HS' := hide hS'
      clear hS'
      generalize setB S (zs k).1 (zs k).2.1 (zs k).2.2 = B at *
      generalize (zs k).1 = z0 at *
      generalize (zs k).2.1 = z1 at *
      generalize (zs k).2.2 = z2 at *
      go_wp2_with fail
      refine (unhide HG _).mono ?_
      rintro e w1 ⟨rfl, hb⟩
      have HB := hide (Below.then (Below.then (unhide hq) (alloc_on' _ _)) hb)
      clear hb hq c0 c1 c2
      go_wp2_with fail
      go_roundw
      case rel => exact ⟨k + 1, by omega, by go_num, by rw [unhide HS'], HB⟩
      case measure => simp [intOf]; omega
    · have hk2 : k = n := by omega
      subst hk2
      go_wp2_with fail
      go_ret
      exact ⟨rfl, unhide hq⟩

theorem nums1 {W : World} {g : Nat} {a b c : Int} (r : Row W g [.int .i64 a, .int .i64 b, .int .i64 c]) : Nums W g 1 (fun _ => (a, b, c)) := fun k hk => by
  have : k = 0 := by omega
  subst this
  exact ⟨r.cell 0 _ rfl, r.cell 1 _ rfl, r.cell 2 _ rfl⟩
theorem nums2 {W : World} {g : Nat} {a b c d e f : Int} (r : Row W g [.int .i64 a, .int .i64 b, .int .i64 c, .int .i64 d, .int .i64 e, .int .i64 f]) : Nums W g 2 (fun k => if k = 0 then (a, b, c) else (d, e, f)) := fun k hk => by
  have : k = 0 ∨ k = 1 := by omega
  rcases this with rfl | rfl
  · exact ⟨r.cell 0 _ rfl, r.cell 1 _ rfl, r.cell 2 _ rfl⟩
  · exact ⟨r.cell 3 _ rfl, r.cell 4 _ rfl, r.cell 5 _ rfl⟩
theorem ret_str' {a b : ByteArray} (h : a = b) : Ending.returned (.string a) = .returned (.string b) := by rw [h]

set_option maxHeartbeats 1000000 in
set_option maxRecDepth 100000 in
theorem withAddresses_any (s : ByteArray) (src dst : Int) (w : World) (hs : s.size ≤ 281474976710656) (hS : Ps.U32 src) (hD : Ps.U32 dst) :
    Calls Tryz.prog 49 #[.string s, .int .u32 src, .int .u32 dst] w fun e w' => e = .returned (.string (addrS s src dst)) ∧ Below w.heap.size w w' := by
  have k1 : IntKind.i64.wrap src = src := Oct.wraps_i64 _ hS.1 (by have := hS.2; omega)
  have k2 : IntKind.i64.wrap dst = dst := Oct.wraps_i64 _ hD.1 (by have := hD.2; omega)
  have b0 := alloc_on' w (.cells #[.int .i64 12, .int .i64 4, .int .i64 src, .int .i64 16, .int .i64 4, .int .i64 dst] 96)
  have HW := hide (with_any s w.heap.size 2 _ (w.alloc (.cells #[.int .i64 12, .int .i64 4, .int .i64 src, .int .i64 16, .int .i64 4, .int .i64 dst] 96)) hs (by decide) (nums2 (row_new w [.int .i64 12, .int .i64 4, .int .i64 src, .int .i64 16, .int .i64 4, .int .i64 dst] 96)))
  have HB := hide b0
  clear b0
  go_enter Tryz.func49, Tryz.ntmps49
  go_wp2_with fail
  refine (unhide HW).mono ?_
  rintro e w1 ⟨rfl, hb⟩
  have HB2 := hide (Below.then (unhide HB) hb)
  clear hb
  go_wp2_with fail
  go_ret
  exact ⟨rfl, unhide HB2⟩

/-- Ends. -/
structure En where
  src : Int
  dst : Int
  sport : Int
  dport : Int
abbrev En.val (t : En) : Value := .agg #[.int .u32 t.src, .int .u32 t.dst, .int .i64 t.sport, .int .i64 t.dport]
abbrev En.cells (t : En) : List Value := [.int .u32 t.src, .int .u32 t.dst, .int .i64 t.sport, .int .i64 t.dport]

set_option maxHeartbeats 1000000 in
set_option maxRecDepth 100000 in
theorem withPorts_any (s : ByteArray) (t : En) (w : World) (hs : s.size ≤ 281474976710656) :
    Calls Tryz.prog 52 #[.string s, t.val] w fun e w' => e = .returned (.string (portS s t.sport t.dport)) ∧ Below w.heap.size w w' := by
  have r0 := row_new w t.cells 27
  have b0 := alloc_on' w (.cells t.cells.toArray 27)
  have b1 := Below.then b0 (alloc_on' _ (.cells #[.int .i64 0, .int .i64 2, .int .i64 t.sport, .int .i64 2, .int .i64 2, .int .i64 t.dport] 96))
  have hz : (w.alloc (.cells t.cells.toArray 27)).heap.size = w.heap.size + 1 := by simp
  have r1 := row_new (w.alloc (.cells t.cells.toArray 27)) [.int .i64 0, .int .i64 2, .int .i64 t.sport, .int .i64 2, .int .i64 2, .int .i64 t.dport] 96
  rw [hz] at r1
  have HW := hide (with_any s (w.heap.size + 1) 2 _ _ hs (by decide) (nums2 r1))
  have HB := hide b1
  clear b0 b1 r0 r1 hz
  go_enter Tryz.func52, Tryz.ntmps52
  go_wp2_with fail
  refine (unhide HW).mono ?_
  rintro e w1 ⟨rfl, hb⟩
  have HB2 := hide (Below.then (unhide HB) hb)
  clear hb
  go_wp2_with fail
  go_ret
  exact ⟨rfl, unhide HB2⟩

/-- Is it a port? -/
def prtB (n : Int) : Bool := laidB 2 n
theorem prtB_iff (n : Int) : prtB n = true ↔ 0 ≤ n ∧ n ≤ 65535 := by
  unfold prtB
  rw [laidB_iff]
  unfold Room
  constructor
  · rintro ⟨-, h1, h2⟩
    have : n.toNat < 65536 := h2
    omega
  · intro h
    exact ⟨by decide, h.1, by show _ < 65536; omega⟩
set_option maxHeartbeats 1000000 in
theorem isPort_any (n : Int) (w : World) :
    Calls Tryz.prog 48 #[.int .i64 n] w fun e w' => e = .returned (.bool (prtB n)) ∧ Below w.heap.size w w' := by
  have HP := hide (put_any 2 n)
  have HE : Hid (laidB 2 n = prtB n) := rfl
  rw [HE.out] at HP
  generalize laid 2 n = X at *
  generalize prtB n = B at *
  go_enter Tryz.func48, Tryz.ntmps48
  go_wp2_with fail
  refine (unhide HP _).mono ?_
  rintro e w1 ⟨rfl, hb⟩
  have HB := hide hb
  clear hb
  go_wp2_with fail
  go_ret
  exact ⟨rfl, unhide HB⟩

set_option maxHeartbeats 1000000 in
theorem checkless_any (s : ByteArray) (w : World) (hs : s.size ≤ 281474976710656) :
    Calls Tryz.prog 53 #[.string s] w fun e w' => e = .returned (.bool (got s 6 2 == 0)) ∧ Below w.heap.size w w' := by
  have HP := hide (Ps.place_any 17 w (by decide))
  have e1 : Ps.plc 17 = 6 := rfl
  have e2 : Ps.plcB 17 = true := rfl
  rw [e1, e2] at HP
  have HG := hide (fun u => get_any s 6 2 u (by unfold maxLen; omega))
  generalize got s 6 2 = G at *
  generalize gotB s 6 2 = GB at *
  clear e1 e2
  go_enter Tryz.func53, Tryz.ntmps53
  go_wp2_with fail
  refine (unhide HP).mono ?_
  rintro e w1 ⟨rfl, hb⟩
  have HB := hide hb
  clear hb
  go_wp2_with fail
  refine (unhide HG _).mono ?_
  rintro e w2 ⟨rfl, rfl⟩
  go_wp2_with fail
  go_ret
  exact ⟨rfl, unhide HB⟩
end Go.Proofs.YtpjaajeojiaeiaaGreatDoor

/- The closures by which patch goes on with a check: what each step does, whatever it is made of. -/
namespace Go.Proofs.YtpjaajeojiaeiaaGreatDoor
open Go.ChangeShapes Go.WideShapes Go.ChangeAt Go.RowKit

/-- The function k over what C captured goes on with a check by φ, in W and in each world above it. -/
structure Step (W : World) (k : FuncId) (C : Array Value) (φ : Int → Int) : Prop where
  ent : ∀ args W, (callFunc k args).run Tryz.prog W = .ok (.enter k args) W
  rng : ∀ c, 0 ≤ c → c ≤ 65535 → 0 ≤ φ c ∧ φ c ≤ 65535
  call : ∀ W', Below W.heap.size W W' → ∀ c, 0 ≤ c → c ≤ 65535 → Calls Tryz.prog k (#[.int .u16 c] ++ C) W' fun e w' => e = .returned (.int .u16 (φ c)) ∧ Below W'.heap.size W' w'
theorem Step.on {W W' : World} {k : FuncId} {C : Array Value} {φ : Int → Int} (h : Step W k C φ) (hb : Below W.heap.size W W') : Step W' k C φ := ⟨h.ent, h.rng, fun V hv => h.call V (Below.then hb hv)⟩
def IsStep (u : World) (v : Value) (φ : Int → Int) : Prop := ∃ k C, v = .func (.func k) #[] C ∧ Step u k C φ
theorem IsStep.on {W W' : World} {v : Value} {φ : Int → Int} (h : IsStep W v φ) (hb : Below W.heap.size W W') : IsStep W' v φ := by
  obtain ⟨k, C, e, s⟩ := h
  exact ⟨k, C, e, s.on hb⟩
def Steps (u : World) (g n : Nat) (φ : Nat → Int → Int) : Prop := ∀ i, i < n → ∃ v, u.cell? ⟨g, i, none⟩ = some v ∧ IsStep u v (φ i)
theorem Steps.on {W W' : World} {g n : Nat} {φ : Nat → Int → Int} (h : Steps W g n φ) (hb : Below W.heap.size W W') : Steps W' g n φ := fun i hi => by
  obtain ⟨v, hc, hs⟩ := h i hi
  exact ⟨v, (hb.cell (block_lt_of_cell hc)).trans hc, hs.on hb⟩
end Go.Proofs.YtpjaajeojiaeiaaGreatDoor

/- What quote of package patch does. -/
namespace Go.Proofs.YtpjaajeojiaeiaaGreatDoor
open Go.ChangeShapes Go.WideShapes Go.ChangeAt Go.RowKit

/-- What an operation yields: this value, a step, a row of steps. -/
inductive Pr where
  | val (c : Value)
  | step (φ : Int → Int)
  | row (n : Nat) (φ : Nat → Int → Int)
def Pr.ok : Pr → Value → World → Prop
  | .val c, v, _ => v = c
  | .step φ, v, u => IsStep u v φ
  | .row n φ, v, u => ∃ g, v = .slice (some ⟨g, 0, none⟩) n n ∧ Steps u g n φ
theorem Pr.on {p : Pr} {v : Value} {u u' : World} (h : p.ok v u) (hb : Below u.heap.size u u') : p.ok v u' := by
  cases p with
  | val c => exact h
  | step φ => exact IsStep.on h hb
  | row n φ =>
    obtain ⟨g, e, s⟩ := h
    exact ⟨g, e, s.on hb⟩
theorem pdrew {V u : World} {B : Nat} (hb : Below B V.drew u) : Below B V u := ⟨hb.os, hb.tape, hb.output, hb.size, hb.block⟩
end Go.Proofs.YtpjaajeojiaeiaaGreatDoor

/- What outer, segment and message of package patch do. -/
namespace Go.Proofs.YtpjaajeojiaeiaaGreatDoor
open Go.ChangeShapes Go.WideShapes Go.ChangeAt Go.RowKit

set_option maxRecDepth 100000 in
set_option maxHeartbeats 2000000 in
theorem pouter_any (s : ByteArray) (ttl src dst : Int) (w : World) (hs : s.size ≤ 281474976710656) (hS : Ps.U32 src) (hD : Ps.U32 dst) :
    Calls Tryz.prog 23 #[.string s, .int .i64 ttl, .int .u32 src, .int .u32 dst] w fun e w' => e = .returned (.string (outerS s ttl src dst)) ∧ Below w.heap.size w w' := by
  have z1 := addrS_le s src dst
  have z2 := out0S_le s ttl src dst
  have HA := hide (fun u => withAddresses_any s src dst u hs hS hD)
  have HW := hide (fun (W : World) (t : TypeId) => with_any (addrS s src dst) W.heap.size 2 _ (W.alloc (.cells #[.int .i64 8, .int .i64 1, .int .i64 ttl, .int .i64 10, .int .i64 2, .int .i64 0] t)) (by omega) (by decide) (nums2 (row_new W [.int .i64 8, .int .i64 1, .int .i64 ttl, .int .i64 10, .int .i64 2, .int .i64 0] t)))
  have E1 : Hid (wth (addrS s src dst) (fun k => if k = 0 then ((8 : Int), (1 : Int), ttl) else (10, 2, 0)) 2 = out0S s ttl src dst) := rfl
  rw [E1.out] at HW
  have HC := hide (fun u => check_any (out0S s ttl src dst) u (by omega))
  obtain ⟨K, hK⟩ : ∃ K : Int, 65535 - Ck.sum (out0S s ttl src dst).data.toList = K := ⟨_, rfl⟩
  have k0 : 0 ≤ K := by have := Ck.sum_hi (out0S s ttl src dst).data.toList; omega
  have k1 : K ≤ 65535 := by have := Ck.sum_lo (out0S s ttl src dst).data.toList; omega
  have HO : Hid (set (out0S s ttl src dst) 10 2 K = outerS s ttl src dst) := by rw [← hK]; rfl
  rw [hK] at HC
  have HX := hide (fun (W : World) (t : TypeId) => with_any (out0S s ttl src dst) W.heap.size 1 _ (W.alloc (.cells #[.int .i64 10, .int .i64 2, .int .i64 K] t)) (by omega) (by decide) (nums1 (row_new W [.int .i64 10, .int .i64 2, .int .i64 K] t)))
  have E2 : Hid (wth (out0S s ttl src dst) (fun _ => ((10 : Int), (2 : Int), K)) 1 = set (out0S s ttl src dst) 10 2 K) := rfl
  rw [E2.out, HO.out] at HX
  have kw : IntKind.i64.wrap K = K := Oct.wraps_i64 _ k0 (by omega)
  clear hK z1 z2 E1 E2 HO
  generalize outerS s ttl src dst = O at *
  generalize out0S s ttl src dst = X at *
  generalize addrS s src dst = A at *
  go_enter Tryz.func23, Tryz.ntmps23
  go_wp2_with fail
  refine (unhide HA _).mono ?_
  rintro e w1 ⟨rfl, b1⟩
  have HB1 := hide b1
  clear b1
  go_wp2_with fail
  refine (unhide HW _ _).mono ?_
  rintro e w2 ⟨rfl, b2⟩
  have HB2 := hide (Below.then (Below.then (unhide HB1) (alloc_on' _ _)) b2)
  clear b2
  go_wp2_with fail
  refine (unhide HC _).mono ?_
  rintro e w3 ⟨rfl, b3⟩
  have HB3 := hide (Below.then (unhide HB2) b3)
  clear b3
  go_wp2_with fail
  refine (unhide HX _ _).mono ?_
  rintro e w4 ⟨rfl, b4⟩
  have HB4 := hide (Below.then (Below.then (unhide HB3) (alloc_on' _ _)) b4)
  clear b4
  go_wp2_with fail
  go_ret
  exact ⟨rfl, unhide HB4⟩

/-- A whole segment between these ends. -/
def bare (p : Int) (s : ByteArray) : Bool := (p == 17) && (got s 6 2 == 0)
def segT (s : ByteArray) (p : Int) (t : En) : ByteArray := if bare p (portS s t.sport t.dport) = true then portS s t.sport t.dport else Ps.fillS p t.src t.dst (portS s t.sport t.dport)
theorem segT_le (s : ByteArray) (p : Int) (t : En) : (segT s p t).size ≤ s.size := by
  unfold segT
  split
  · exact portS_le _ _ _
  · exact Nat.le_trans (Ps.fillS_size _ _ _ _) (portS_le _ _ _)
set_option maxRecDepth 100000 in
set_option maxHeartbeats 2000000 in
theorem psegment_any (s : ByteArray) (p : Int) (t : En) (w : World) (hs : s.size ≤ 140737488360000) (hp : Ps.I64 p) (hT : Ps.U32 t.src ∧ Ps.U32 t.dst) :
    Calls Tryz.prog 24 #[.string s, .int .i64 p, t.val] w fun e w' => e = .returned (.string (segT s p t)) ∧ Below w.heap.size w w' := by
  have z1 := portS_le s t.sport t.dport
  have HP := hide (fun u => withPorts_any s t u (by omega))
  have HC := hide (fun u => checkless_any (portS s t.sport t.dport) u (by omega))
  have HF := hide (fun u => Ps.pfill_any p t.src t.dst (portS s t.sport t.dport) u hp hT.1 hT.2 (by omega))
  have HS : Hid (segT s p t = if ((p == 17) && (got (portS s t.sport t.dport) 6 2 == 0)) = true then portS s t.sport t.dport else Ps.fillS p t.src t.dst (portS s t.sport t.dport)) := rfl
  have r0 := row_new w t.cells 27
  have b0 := alloc_on' w (.cells t.cells.toArray 27)
  clear z1
  generalize segT s p t = SS at *
  generalize Ps.fillS p t.src t.dst (portS s t.sport t.dport) = FS at *
  generalize Ps.fillB p t.src t.dst (portS s t.sport t.dport) = FB at *
  generalize got (portS s t.sport t.dport) 6 2 = G at *
  generalize portS s t.sport t.dport = A at *
  have HR := hide (And.intro r0 b0)
  clear r0 b0
  by_cases h17 : p = 17
  · subst h17
    by_cases h0 : G = 0
    · have HX : Hid (SS = A) := by rw [HS.out, h0]; rfl
      have t0 : (G == 0) = true := by simpa using h0
      rw [t0] at HC
      have H0 := hide h0
      clear h0
      have c0 := ((unhide HR).1).cell 0 _ rfl
      go_enter Tryz.func24, Tryz.ntmps24
      go_wp2_with fail
      refine (unhide HP _).mono ?_
      rintro e w1 ⟨rfl, hb⟩
      have HB1 := hide (Below.then (unhide HR).2 hb)
      clear hb
      go_wp2_with fail
      refine (unhide HC _).mono ?_
      rintro e w2 ⟨rfl, hb⟩
      have HB2 := hide (Below.then (unhide HB1) hb)
      clear hb
      go_wp2_with fail
      go_ret
      exact ⟨ret_str' HX.out.symm, unhide HB2⟩
    · have t0 : (G == 0) = false := by simpa using h0
      have HX : Hid (SS = FS) := by rw [HS.out, t0]; rfl
      rw [t0] at HC
      have H0 := hide h0
      clear h0
      go_enter Tryz.func24, Tryz.ntmps24
      go_wp2_with fail
      refine (unhide HP _).mono ?_
      rintro e w1 ⟨rfl, hb⟩
      obtain ⟨r0, b0⟩ := unhide HR
      replace r0 := r0.on' hb
      have HR := hide (And.intro r0 (Below.then b0 hb))
      clear hb r0 b0
      go_wp2_with fail
      refine (unhide HC _).mono ?_
      rintro e w2 ⟨rfl, hb⟩
      obtain ⟨r0, b0⟩ := unhide HR
      replace r0 := r0.on' hb
      have c0 := r0.cell 0 _ rfl
      have c1 := r0.cell 1 _ rfl
      have HB2 := hide (Below.then b0 hb)
      clear hb r0 b0
      go_wp2_with fail
      refine (unhide HF _).mono ?_
      rintro e w3 ⟨rfl, hb⟩
      have HB3 := hide (Below.then (unhide HB2) hb)
      clear hb
      go_wp2_with fail
      go_ret
      exact ⟨ret_str' HX.out.symm, unhide HB3⟩
  · have t17 : (p == 17) = false := by simpa using h17
    have HX : Hid (SS = FS) := by rw [HS.out, t17]; rfl
    have H17 := hide h17
    clear h17
    go_enter Tryz.func24, Tryz.ntmps24
    go_wp2_with fail
    refine (unhide HP _).mono ?_
    rintro e w1 ⟨rfl, hb⟩
    obtain ⟨r0, b0⟩ := unhide HR
    replace r0 := r0.on' hb
    have c0 := r0.cell 0 _ rfl
    have c1 := r0.cell 1 _ rfl
    have HB1 := hide (Below.then b0 hb)
    clear hb r0 b0
    go_wp2_with fail
    refine (unhide HF _).mono ?_
    rintro e w3 ⟨rfl, hb⟩
    have HB3 := hide (Below.then (unhide HB1) hb)
    clear hb
    go_wp2_with fail
    go_ret
    exact ⟨ret_str' HX.out.symm, unhide HB3⟩

end Go.Proofs.YtpjaajeojiaeiaaGreatDoor

/- What message of package patch does. -/
namespace Go.Proofs.YtpjaajeojiaeiaaGreatDoor
open Go.ChangeShapes Go.WideShapes Go.ChangeAt Go.RowKit

theorem parseH_body (s : ByteArray) : (Ic.parseH s).body.size ≤ s.size := by
  unfold Ic.parseH
  split
  · show (s.extract 8 s.size).size ≤ _
    rw [ByteArray.size_extract]; omega
  · exact Nat.zero_le _
end Go.Proofs.YtpjaajeojiaeiaaGreatDoor
