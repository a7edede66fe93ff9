/- Contracts and mathematics of the layers below (TcBase, TcOpts, TcVar, TcHd, TcRight). -/
import Derived.Test.YtpjaajeojiaeiaaGreatDoorChecked
import Derived.OpenShut
import Derived.WalkSpells
import Derived.WalkLawsBesides
import Derived.Handy
import Derived.Below
import Derived.Test.YtpjaajeojiaeiaaGreatDoorBs
/- Small words that all other texts use: what a walk is not to see, worlds one behind the other, what cells a row of numbers has. -/
namespace Go.Proofs.YtpjaajeojiaeiaaGreatDoor.Tc
open Go.ChangeShapes Go.WideShapes Go.ChangeAt Go.RowKit

theorem hide {p : Prop} (h : p) : Hid p := h
theorem unhide {p : Prop} (h : Hid p) : p := h
theorem ret_int {k : IntKind} {a b : Int} (h : a = b) : Ending.returned (.int k a) = .returned (.int k b) := by rw [h]
theorem ret_str {a b : ByteArray} (h : a = b) : Ending.returned (.string a) = .returned (.string b) := by rw [h]
theorem ret_bool {a b : Bool} (h : a = b) : Ending.returned (.bool a) = .returned (.bool b) := by rw [h]
/-- One behind the other. -/
theorem Below.then {a b c : World} (h : Below a.heap.size a b) (k : Below b.heap.size b c) : Below a.heap.size a c := h.trans (k.mono h.size)
/-- From the head of block g on stand the numbers zs. -/
def Reads (w : World) (g : Nat) (zs : List Int) : Prop := ∀ i, i < zs.length → w.cell? ⟨g, i, none⟩ = some (.int .i64 (zs.getD i 0))
theorem Reads.on {W W' : World} {g : Nat} {zs : List Int} (h : Reads W g zs) (hb : Below W.heap.size W W') : Reads W' g zs := fun i hi => by
 rw [hb.cell (block_lt_of_cell (h i hi))]; exact h i hi
end Go.Proofs.YtpjaajeojiaeiaaGreatDoor.Tc

/- What optSize and OptsRight compute, and what the reference's OptsRight computes: the same plain function of the bytes. -/
namespace Go.Proofs.YtpjaajeojiaeiaaGreatDoor.Tc
open Go.ChangeShapes Go.WideShapes Go.ChangeAt Go.RowKit

/-- Options one behind the other. -/
def optsOk (l : List UInt8) : Bool :=
 match l with
 | [] => true
 | [k] => k == 0 || k == 1
 | k :: n :: r => if k = 0 then true else if k = 1 then optsOk (n :: r) else decide (2 ≤ n.toNat) && decide (n.toNat ≤ r.length + 2) && optsOk (r.drop (n.toNat - 2))
 termination_by l.length
 decreasing_by all_goals simp; try omega

theorem opts_nil : optsOk [] = true := by unfold optsOk; rfl
theorem drop_head (l : List UInt8) (i : Nat) (h : i < l.length) : l.drop i = l.getD i 0 :: l.drop (i + 1) := by
 rw [List.drop_eq_getElem_cons h, List.getD_eq_getElem?_getD, List.getElem?_eq_getElem h]; rfl
theorem opts_end (l : List UInt8) (i : Nat) (h : l.length ≤ i) : optsOk (l.drop i) = true := by rw [List.drop_of_length_le h]; exact opts_nil
theorem opts_zero (l : List UInt8) (i : Nat) (h : i < l.length) (hk : l.getD i 0 = 0) : optsOk (l.drop i) = true := by
 rw [drop_head l i h, hk]
 cases l.drop (i + 1) with
 | nil => unfold optsOk; rfl
 | cons n r => unfold optsOk; rfl
theorem opts_one (l : List UInt8) (i : Nat) (h : i < l.length) (hk : l.getD i 0 = 1) : optsOk (l.drop i) = optsOk (l.drop (i + 1)) := by
 rw [drop_head l i h, hk]
 cases l.drop (i + 1) with
 | nil => rw [opts_nil]; unfold optsOk; rfl
 | cons n r => rw [optsOk]; rfl
theorem opts_last (l : List UInt8) (i : Nat) (h : i + 1 = l.length) (h0 : l.getD i 0 ≠ 0) (h1 : l.getD i 0 ≠ 1) : optsOk (l.drop i) = false := by
 rw [drop_head l i (by omega), List.drop_of_length_le (by omega)]
 unfold optsOk
 rw [beq_eq_false_iff_ne.2 h0, beq_eq_false_iff_ne.2 h1]; rfl
theorem opts_long (l : List UInt8) (i n : Nat) (h : i + 1 < l.length) (h0 : l.getD i 0 ≠ 0) (h1 : l.getD i 0 ≠ 1) (hn : (l.getD (i + 1) 0).toNat = n) :
  optsOk (l.drop i) = (decide (2 ≤ n) && decide (i + n ≤ l.length) && optsOk (l.drop (i + n))) := by
 rw [drop_head l i (by omega), drop_head l (i + 1) h]
 rw [optsOk, if_neg h0, if_neg h1, hn]
 by_cases h2 : 2 ≤ n
 ·rw [List.drop_drop, show i + 1 + 1 + (n - 2) = i + n by omega]
  rw [List.length_drop]
  have : decide (n ≤ l.length - (i + 1 + 1) + 2) = decide (i + n ≤ l.length) := by rw [decide_eq_decide]; omega
  rw [this]
 ·rw [decide_eq_false h2]; rfl

def strOf : Value → ByteArray
 | .string s => s
 | _ => ⟨#[]⟩
theorem getD_byte (s : ByteArray) (i : Nat) (h : i < s.size) : s.data.toList.getD i 0 = s[i] := by
 rw [List.getD_eq_getElem?_getD, List.getElem?_eq_getElem (by rw [Oct.len_eq]; exact h)]; rfl

theorem got11 (s : ByteArray) (h : 1 < s.size) : got s 1 1 = (s[1].toNat : Int) ∧ gotB s 1 1 = true := by
 have hb : gotB s 1 1 = true := (gotB_iff s 1 1).2 ⟨⟨by omega, by omega⟩, by omega, by omega⟩
 refine ⟨?_, hb⟩
 rw [got, if_pos hb]
 show ((Oct.num ((s.data.toList.drop 1).take 1) : Nat) : Int) = _
 rw [drop_head _ 1 (by rw [Oct.len_eq]; omega), getD_byte s 1 h]
 simp [Oct.num]
theorem got11_no (s : ByteArray) (h : ¬ 1 < s.size) : got s 1 1 = 0 ∧ gotB s 1 1 = false := by
 have hb : gotB s 1 1 = false := by
  cases hb : gotB s 1 1 with
  | false => rfl
  | true => obtain ⟨_, _, h3⟩ := (gotB_iff s 1 1).1 hb; omega
 exact ⟨by rw [got, if_neg (by rw [hb]; decide)], hb⟩
theorem u8ne (a : UInt8) (n : Nat) (h : a ≠ UInt8.ofNat n) : ¬ ((a.toNat : Int) = n) := fun e => h (by rw [← UInt8.ofNat_toNat (x := a)]; congr 1; omega)

set_option maxHeartbeats 400000 in
theorem optSize_one (s : ByteArray) (w : World) (h : 0 < s.size) (hk : s[0] = 1) :
  Calls Tryz.prog 103 #[.string s] w fun e w' => e = .returned (.tuple #[.int .i64 1, .bool true]) ∧ w' = w := by
 have hk' : ((s[0].toNat : Nat) : Int) = 1 := by rw [hk]; rfl
 clear hk
 go_enter Tryz.func103, Tryz.ntmps103
 go_wp2_with fail
 go_ret2
 exact ⟨rfl, rfl⟩

set_option maxHeartbeats 400000 in
theorem optSize_none (s : ByteArray) (w : World) (h : s.size = 1) (hk : s[0] ≠ 1) (hs : s.size ≤ maxLen) :
  Calls Tryz.prog 103 #[.string s] w fun e w' => e = .returned (.tuple #[.int .i64 0, .bool false]) ∧ w' = w := by
 have hk' : ¬ ((s[0].toNat : Int) = 1) := u8ne _ 1 hk
 have h0 : 0 < s.size := by omega
 obtain ⟨g1, g2⟩ := got11_no s (by omega)
 have hg := fun u => get_any s 1 1 u hs
 rw [g1, g2] at hg
 clear hk g1 g2
 go_enter Tryz.func103, Tryz.ntmps103
 go_wp2_with fail
 refine (hg _).mono ?_
 rintro e w' ⟨rfl, rfl⟩
 go_wp2_with fail
 go_ret2
 exact ⟨rfl, rfl⟩

set_option maxHeartbeats 400000 in
theorem optSize_some (s : ByteArray) (w : World) (h : 1 < s.size) (hk : s[0] ≠ 1) (hs : s.size ≤ maxLen) :
  Calls Tryz.prog 103 #[.string s] w fun e w' => e = .returned (.tuple #[.int .i64 s[1].toNat, .bool (decide (2 ≤ s[1].toNat) && decide (s[1].toNat ≤ s.size))]) ∧ w' = w := by
 have hk' : ¬ ((s[0].toNat : Int) = 1) := u8ne _ 1 hk
 have h0 : 0 < s.size := by omega
 obtain ⟨g1, g2⟩ := got11 s h
 have hg := fun u => get_any s 1 1 u hs
 rw [g1, g2] at hg
 have hb := s[1].toNat_lt
 obtain ⟨n, hn⟩ : ∃ n : Nat, s[1].toNat = n := ⟨_, rfl⟩
 rw [hn] at hg hb ⊢
 clear hk g1 g2 hn
 unfold maxLen at hs
 by_cases h2 : 2 ≤ n
 ·by_cases h3 : n ≤ s.size
  ·have d1 : decide (2 ≤ n) = true := by simpa using h2
   have d2 : decide (n ≤ s.size) = true := by simpa using h3
   rw [d1, d2]
   go_enter Tryz.func103, Tryz.ntmps103
   go_wp2_with fail
   refine (hg _).mono ?_
   rintro e w' ⟨rfl, rfl⟩
   go_wp2_with fail
   go_ret2
   exact ⟨rfl, rfl⟩
  ·have d2 : decide (n ≤ s.size) = false := by simpa using h3
   rw [d2, Bool.and_false]
   go_enter Tryz.func103, Tryz.ntmps103
   go_wp2_with fail
   refine (hg _).mono ?_
   rintro e w' ⟨rfl, rfl⟩
   go_wp2_with fail
   go_ret2
   exact ⟨rfl, rfl⟩
 ·have d1 : decide (2 ≤ n) = false := by simpa using h2
  rw [d1, Bool.false_and]
  go_enter Tryz.func103, Tryz.ntmps103
  go_wp2_with fail
  refine (hg _).mono ?_
  rintro e w' ⟨rfl, rfl⟩
  go_wp2_with fail
  go_ret2
  exact ⟨rfl, rfl⟩


set_option maxHeartbeats 1000000 in
theorem optsRight_any (s : ByteArray) (w : World) (hs : s.size ≤ 140737488355328) :
  Calls Tryz.prog 67 #[.string s] w fun e w' => e = .returned (.bool (optsOk s.data.toList)) ∧ w' = w := by
 go_enter Tryz.func67, Tryz.ntmps67
 go_wp2
 go_loop [0] (fun t => ∃ x : ByteArray, x.size ≤ s.size ∧ t = .string x ∧ optsOk x.data.toList = optsOk s.data.toList) (fun t => (strOf t).size)
 case atStart => exact ⟨s, Nat.le_refl _, rfl, rfl⟩
 case round =>
  obtain ⟨x, hx, rfl, ho⟩ := hrel
  have hl := Oct.len_eq x
  have HO := hide ho
  clear ho
  have hxm : x.size ≤ maxLen := by unfold maxLen; omega
  by_cases he : x.size = 0
  ·have HR : Hid (true = optsOk s.data.toList) := by
    show _ = _
    rw [← unhide HO]; have := opts_end x.data.toList 0 (by omega); rw [List.drop_zero] at this; exact this.symm
   go_wp2_with fail
   go_ret
   exact ⟨ret_bool HR.out, rfl⟩
  ·have h0 : 0 < x.size := by omega
   have hb0 := getD_byte x 0 h0
   by_cases hz : x[0] = 0
   ·have hz' : (x[0].toNat : Int) = 0 := by rw [hz]; rfl
    have HR : Hid (true = optsOk s.data.toList) := by
     show _ = _
     rw [← unhide HO]; have := opts_zero x.data.toList 0 (by omega) (by rw [hb0, hz]); rw [List.drop_zero] at this; exact this.symm
    clear hz hb0 he
    go_wp2_with fail
    go_ret
    exact ⟨ret_bool HR.out, rfl⟩
   ·have hz' : ¬ ((x[0].toNat : Int) = 0) := u8ne _ 0 hz
    by_cases ho : x[0] = 1
    ·have HR : Hid (optsOk (x.extract 1 x.size).data.toList = optsOk s.data.toList) := by
      show _ = _
      rw [← unhide HO]; have := opts_one x.data.toList 0 (by omega) (by rw [hb0, ho]); rw [List.drop_zero] at this
      rw [this, Oct.ext_list, List.take_of_length_le (by omega)]
     have hsz1 := Oct.ext_size x 1 x.size (Nat.le_refl _)
     have hq : (1 : Int) ≤ x.size := by omega
     have HC := fun u => optSize_one x u h0 ho
     clear hb0 hz ho
     go_wp2_with fail
     refine (HC _).mono ?_
     rintro e w' ⟨rfl, rfl⟩
     go_wp2_with fail
     go_round
     case rel => exact ⟨x.extract 1 x.size, by omega, rfl, HR.out⟩
     case measure => simp only [strOf]; omega
    ·by_cases h1 : x.size = 1
     ·have HR : Hid (false = optsOk s.data.toList) := by
       show _ = _
       rw [← unhide HO]; have := opts_last x.data.toList 0 (by omega) (by rw [hb0]; exact hz) (by rw [hb0]; exact ho); rw [List.drop_zero] at this; exact this.symm
      have HC := fun u => optSize_none x u h1 ho hxm
      clear hb0 hz ho
      go_wp2_with fail
      refine (HC _).mono ?_
      rintro e w' ⟨rfl, rfl⟩
      go_wp2_with fail
      go_ret
      exact ⟨ret_bool HR.out, rfl⟩
     ·have h2 : 1 < x.size := by omega
      have hb1 := getD_byte x 1 h2
      have HL := opts_long x.data.toList 0 x[1].toNat (by omega) (by rw [hb0]; exact hz) (by rw [hb0]; exact ho) (by rw [hb1])
      rw [List.drop_zero, Nat.zero_add, hl] at HL
      have HC := fun u => optSize_some x u h2 ho hxm
      obtain ⟨n, hn⟩ : ∃ n : Nat, x[1].toNat = n := ⟨_, rfl⟩
      rw [hn] at HL HC
      have HL := hide HL
      cases hd : (decide (2 ≤ n) && decide (n ≤ x.size)) with
      | false =>
       have HR : Hid (false = optsOk s.data.toList) := by
        show _ = _
        rw [← unhide HO, unhide HL, hd]; rfl
       rw [hd] at HC
       clear hb0 hb1 hz ho hn hd
       go_wp2_with fail
       refine (HC _).mono ?_
       rintro e w' ⟨rfl, rfl⟩
       go_wp2_with fail
       go_ret
       exact ⟨ret_bool HR.out, rfl⟩
      | true =>
       have HR : Hid (optsOk (x.extract n x.size).data.toList = optsOk s.data.toList) := by
        show _ = _
        rw [← unhide HO, unhide HL, hd, Bool.true_and, Oct.ext_list, List.take_of_length_le (by omega)]
       rw [hd] at HC
       have hn2 : 2 ≤ n ∧ n ≤ x.size := by simpa using hd
       obtain ⟨hn2, hn3⟩ := hn2
       have hsz1 := Oct.ext_size x n x.size (Nat.le_refl _)
       clear hb0 hb1 hz ho hn hd
       go_wp2_with fail
       refine (HC _).mono ?_
       rintro e w' ⟨rfl, rfl⟩
       go_wp2_with fail
       go_round
       case rel => exact ⟨x.extract n x.size, by omega, by simp, HR.out⟩
       case measure => simp only [strOf]; simp; omega

set_option maxHeartbeats 1000000 in
theorem roptsRight_any (s : ByteArray) (w : World) (hs : s.size ≤ 140737488355328) :
  Calls Tryz.prog 75 #[.string s] w fun e w' => e = .returned (.bool (optsOk s.data.toList)) ∧ w' = w := by
 have hl := Oct.len_eq s
 go_enter Tryz.func75, Tryz.ntmps75
 go_wp2
 go_loop [3] (fun t => ∃ i : Nat, i ≤ s.size ∧ t = .int .i64 i ∧ optsOk (s.data.toList.drop i) = optsOk s.data.toList) (fun t => s.size - (intOf t).toNat)
 case atStart => exact ⟨0, Nat.zero_le _, rfl, rfl⟩
 case round =>
  obtain ⟨i, hi, rfl, ho⟩ := hrel
  have HO := hide ho
  clear ho
  by_cases he : i = s.size
  ·have HR : Hid (true = optsOk s.data.toList) := by
    show _ = _
    rw [← unhide HO]; exact (opts_end s.data.toList i (by omega)).symm
   have hd : decide ((i : Int) < s.size) = false := by simp; omega
   go_wp2_with fail
   go_ret
   exact ⟨ret_bool HR.out, rfl⟩
  ·have h0 : i < s.size := by omega
   have hb0 := getD_byte s i h0
   by_cases hz : s[i] = 0
   ·have hz' : (s[i].toNat : Int) = 0 := by rw [hz]; rfl
    have HR : Hid (true = optsOk s.data.toList) := by
     show _ = _
     rw [← unhide HO]; exact (opts_zero s.data.toList i (by omega) (by rw [hb0, hz])).symm
    clear hz hb0 he
    go_wp2_with fail
    go_ret
    exact ⟨ret_bool HR.out, rfl⟩
   ·have hz' : ¬ ((s[i].toNat : Int) = 0) := u8ne _ 0 hz
    by_cases ho : s[i] = 1
    ·have ho' : (s[i].toNat : Int) = 1 := by rw [ho]; rfl
     have HR : Hid (optsOk (s.data.toList.drop (i + 1)) = optsOk s.data.toList) := by
      show _ = _
      rw [← unhide HO]; exact (opts_one s.data.toList i (by omega) (by rw [hb0, ho])).symm
     clear hb0 hz ho
     go_wp2_with fail
     go_round
     case rel => exact ⟨i + 1, by omega, by go_num, HR.out⟩
     case measure => simp [intOf]; omega
    ·have ho' : ¬ ((s[i].toNat : Int) = 1) := u8ne _ 1 ho
     by_cases h1 : i + 1 = s.size
     ·have HR : Hid (false = optsOk s.data.toList) := by
       show _ = _
       rw [← unhide HO]; exact (opts_last s.data.toList i (by omega) (by rw [hb0]; exact hz) (by rw [hb0]; exact ho)).symm
      have hd : decide ((s.size : Int) ≤ i + 1) = true := by simp; omega
      clear hb0 hz ho
      go_wp2_with fail
      go_ret
      exact ⟨ret_bool HR.out, rfl⟩
     ·have h2 : i + 1 < s.size := by omega
      have hb1 := getD_byte s (i + 1) h2
      have hlt := s[i + 1].toNat_lt
      have HL := opts_long s.data.toList i s[i + 1].toNat (by omega) (by rw [hb0]; exact hz) (by rw [hb0]; exact ho) (by rw [hb1])
      rw [hl] at HL
      have HL := hide HL
      have hd : decide ((s.size : Int) ≤ i + 1) = false := by simp; omega
      clear hb0 hb1 hz ho
      by_cases h3 : s[i + 1].toNat < 2
      ·have HR : Hid (false = optsOk s.data.toList) := by
        show _ = _
        rw [← unhide HO, unhide HL, decide_eq_false (by omega)]; rfl
       go_wp2_with fail
       go_ret
       exact ⟨ret_bool HR.out, rfl⟩
      ·by_cases h4 : s.size < i + s[i + 1].toNat
       ·have HR : Hid (false = optsOk s.data.toList) := by
         show _ = _
         rw [← unhide HO, unhide HL, decide_eq_false (p := i + _ ≤ _) (by omega), Bool.and_false]; rfl
        go_wp2_with fail
        go_ret
        exact ⟨ret_bool HR.out, rfl⟩
       ·have HR : Hid (optsOk (s.data.toList.drop (i + s[i + 1].toNat)) = optsOk s.data.toList) := by
         show _ = _
         rw [← unhide HO, unhide HL, decide_eq_true (p := 2 ≤ _) (by omega), decide_eq_true (p := i + _ ≤ _) (by omega)]; rfl
        go_wp2_with fail
        go_round
        case rel => exact ⟨i + s[i + 1].toNat, by omega, by go_num, HR.out⟩
        case measure => simp [intOf]; omega
end Go.Proofs.YtpjaajeojiaeiaaGreatDoor.Tc

/- What the variadic helpers of package tcp compute: within, text, read. -/
namespace Go.Proofs.YtpjaajeojiaeiaaGreatDoor.Tc
open Go.ChangeShapes Go.WideShapes Go.ChangeAt Go.RowKit

/-- Is each number 0 to most? -/
def okAll (most : Int) (zs : List Int) : Bool := zs.all fun z => decide (0 ≤ z) && decide (z ≤ most)
/-- The first i of the numbers one behind the other. -/
def textN (size : Int) (zs : List Int) : Nat → ByteArray
 | 0 => ⟨#[]⟩
 | i + 1 => textN size zs i ++ laid size (zs.getD i 0)
theorem laid_size (s n : Int) : (laid s n).size ≤ 4 := by
 unfold laid
 split
 ·rename_i h
  obtain ⟨⟨h1, h2⟩, _⟩ := (laidB_iff s n).1 h
  rw [Oct.mk_size, Oct.be_length]; omega
 ·exact Nat.zero_le _
/-- Two places are written, one behind the other. -/
theorem read2_any (s : ByteArray) (pos size : Int) (g : Nat) (p q : Addr) (w : World) (hs : s.size ≤ maxLen) (hp0 : 0 ≤ pos) (hp1 : pos ≤ 100) (hs0 : 0 ≤ size) (hs1 : size ≤ 100)
  (c0 : w.cell? ⟨g, 0, none⟩ = some (.pointer (some p))) (c1 : w.cell? ⟨g, 1, none⟩ = some (.pointer (some q))) (hpg : p.block ≠ g)
  (vp : Value) (hvp : w.cell? p = some vp) (vq : Value) (hvq : w.cell? q = some vq) (fp : w.frozen? p = false) (fq : w.frozen? q = false) (hpq : q ≠ p) :
  Calls Tryz.prog 139 #[.string s, .int .i64 pos, .int .i64 size, .slice (some ⟨g, 0, none⟩) 2 2] w fun e w' => e = .returned (.tuple #[]) ∧ w' = (w.setCell p (.int .i64 (got s pos size))).setCell q (.int .i64 (got s (pos + size) size)) := by
 have hne : (⟨g, 1, none⟩ : Addr) ≠ p := fun h => hpg (by rw [← h])
 have c1' : ∀ v, (w.setCell p v).cell? ⟨g, 1, none⟩ = some (.pointer (some q)) := fun v => by rw [World.cell?_setCell_other _ _ _ _ (Ne.symm hne)]; exact c1
 have hvq' : ∀ v, (w.setCell p v).cell? q = some vq := fun v => by rw [World.cell?_setCell_other _ _ _ _ (Ne.symm hpq)]; exact hvq
 have fq' : ∀ v, (w.setCell p v).frozen? q = false := fun v => by rw [World.frozen?_setCell]; exact fq
 go_enter Tryz.func139, Tryz.ntmps139
 go_wp2
 refine wp_loop_rounds 3 ?_
 rw [rounds_succ]
 go_wp2_with fail
 refine (get_any s _ _ _ hs).mono ?_
 rintro e w1 ⟨rfl, rfl⟩
 go_wp2_with fail
 rw [rounds_succ]
 have c1'' := c1' (.int .i64 (got s pos size))
 have hvq'' := hvq' (.int .i64 (got s pos size))
 have fq'' := fq' (.int .i64 (got s pos size))
 go_wp2_with fail
 refine (get_any s _ _ _ hs).mono ?_
 rintro e w1 ⟨rfl, rfl⟩
 go_wp2_with fail
 rw [rounds_succ]
 go_wp2_with fail
 go_end0
 exact ⟨rfl, rfl⟩
theorem read1_any (s : ByteArray) (pos size : Int) (g : Nat) (p : Addr) (w : World) (hs : s.size ≤ maxLen) (hp0 : 0 ≤ pos) (hp1 : pos ≤ 100)
  (c0 : w.cell? ⟨g, 0, none⟩ = some (.pointer (some p)))
  (vp : Value) (hvp : w.cell? p = some vp) (fp : w.frozen? p = false) :
  Calls Tryz.prog 139 #[.string s, .int .i64 pos, .int .i64 size, .slice (some ⟨g, 0, none⟩) 1 1] w fun e w' => e = .returned (.tuple #[]) ∧ w' = w.setCell p (.int .i64 (got s pos size)) := by
 go_enter Tryz.func139, Tryz.ntmps139
 go_wp2
 refine wp_loop_rounds 2 ?_
 rw [rounds_succ]
 go_wp2_with fail
 refine (get_any s _ _ _ hs).mono ?_
 rintro e w1 ⟨rfl, rfl⟩
 go_wp2_with fail
 rw [rounds_succ]
 go_wp2_with fail
 go_end0
 exact ⟨rfl, rfl⟩
end Go.Proofs.YtpjaajeojiaeiaaGreatDoor.Tc

/- A header of TCP as a value; its variable: its cells, a header stored there, and kept while others are called. -/
namespace Go.Proofs.YtpjaajeojiaeiaaGreatDoor.Tc
open Go.ChangeShapes Go.WideShapes Go.ChangeAt Go.RowKit

structure Hd where
 src : Int
 dst : Int
 seq : Int
 ack : Int
 flags : Int
 win : Int
 urg : Int
 opts : ByteArray
/-- The numbers fit their kinds; the options are no longer than any text. -/
structure Hd.Wf (h : Hd) : Prop where
 src : -9223372036854775808 ≤ h.src ∧ h.src ≤ 9223372036854775807
 dst : -9223372036854775808 ≤ h.dst ∧ h.dst ≤ 9223372036854775807
 seq : 0 ≤ h.seq ∧ h.seq ≤ 4294967295
 ack : 0 ≤ h.ack ∧ h.ack ≤ 4294967295
 flags : -9223372036854775808 ≤ h.flags ∧ h.flags ≤ 9223372036854775807
 win : -9223372036854775808 ≤ h.win ∧ h.win ≤ 9223372036854775807
 urg : -9223372036854775808 ≤ h.urg ∧ h.urg ≤ 9223372036854775807
 opts : h.opts.size ≤ 140737488355328
abbrev Hd.val (h : Hd) : Value := .agg #[.int .i64 h.src, .int .i64 h.dst, .int .u32 h.seq, .int .u32 h.ack, .int .i64 h.flags, .int .i64 h.win, .int .i64 h.urg, .string h.opts]
/-- A header's cells. -/
def hcell (h : Hd) : Nat → Value
 | 0 => .int .i64 h.src | 1 => .int .i64 h.dst | 2 => .int .u32 h.seq | 3 => .int .u32 h.ack | 4 => .int .i64 h.flags | 5 => .int .i64 h.win | 6 => .int .i64 h.urg | _ => .string h.opts
def HdAt (W : World) (b : Nat) (h : Hd) : Prop := ∀ k, k < 8 → W.cell? ⟨b, k, none⟩ = some (hcell h k)
theorem HdAt.on {W W' : World} {b B : Nat} {h : Hd} (hh : HdAt W b h) (hb : Below B W W') (hB : b < B) : HdAt W' b h := fun k hk => (hb.cell (p := ⟨b, k, none⟩) hB).trans (hh k hk)
theorem HdAt.set {W : World} {b : Nat} {h : Hd} (hh : HdAt W b h) {p : Addr} (hp : p.block ≠ b) (v : Value) : HdAt (W.setCell p v) b h := fun k hk => by
 rw [World.cell?_setCell_other _ _ _ _ (fun e => hp (by rw [e]))]; exact hh k hk
def setHd (W : World) (b : Nat) (h : Hd) : World := ((((((((W.setCell ⟨b, 0, none⟩ (.int .i64 h.src)).setCell ⟨b, 1, none⟩ (.int .i64 h.dst)).setCell ⟨b, 2, none⟩ (.int .u32 h.seq)).setCell ⟨b, 3, none⟩ (.int .u32 h.ack)).setCell ⟨b, 4, none⟩ (.int .i64 h.flags)).setCell ⟨b, 5, none⟩ (.int .i64 h.win)).setCell ⟨b, 6, none⟩ (.int .i64 h.urg)).setCell ⟨b, 7, none⟩ (.string h.opts))
theorem setHd_below {B : Nat} {U W : World} (h : Below B U W) (b : Nat) (x : Hd) (hb : B ≤ b) : Below B U (setHd W b x) :=
 ((((((((h).setCell (p := ⟨b, 0, none⟩) hb _).setCell (p := ⟨b, 1, none⟩) hb _).setCell (p := ⟨b, 2, none⟩) hb _).setCell (p := ⟨b, 3, none⟩) hb _).setCell (p := ⟨b, 4, none⟩) hb _).setCell (p := ⟨b, 5, none⟩) hb _).setCell (p := ⟨b, 6, none⟩) hb _).setCell (p := ⟨b, 7, none⟩) hb _
theorem hd_step {W : World} {b : Nat} {f g : Nat → Value} (j : Nat) (v : Value) (hv : v = f j) (h : ∀ k, k < 8 → W.cell? ⟨b, k, none⟩ = some (if k < j then f k else g k)) : ∀ k, k < 8 → (W.setCell ⟨b, j, none⟩ v).cell? ⟨b, k, none⟩ = some (if k < j + 1 then f k else g k) := by
 intro i hi
 by_cases e : i = j
 ·subst e
  rw [if_pos (Nat.lt_succ_self i), ← hv]
  exact World.cell?_setCell_same _ _ _ (h i hi)
 ·rw [World.cell?_setCell_other _ _ _ _ (fun h => by cases h; omega), h i hi]
  by_cases h1 : i < j
  ·rw [if_pos h1, if_pos (by omega)]
  ·rw [if_neg h1, if_neg (by omega)]
theorem setHd_at {W : World} {b : Nat} {z : Hd} (h : Hd) (hz : HdAt W b z) : HdAt (setHd W b h) b h := by
 have h0 : ∀ k, k < 8 → W.cell? ⟨b, k, none⟩ = some (if k < 0 then hcell h k else hcell z k) := fun k hk => by rw [if_neg (by omega)]; exact hz k hk
 have := hd_step 7 _ rfl (hd_step 6 _ rfl (hd_step 5 _ rfl (hd_step 4 _ rfl (hd_step 3 _ rfl (hd_step 2 _ rfl (hd_step 1 _ rfl (hd_step (f := hcell h) 0 _ rfl h0)))))))
 intro k hk
 have e := this k hk
 rw [if_pos (by omega)] at e
 exact e
def zeroHd : Hd := ⟨0, 0, 0, 0, 0, 0, 0, ⟨#[]⟩⟩
theorem each {k : Nat} (h : k < 8) : k = 0 ∨ k = 1 ∨ k = 2 ∨ k = 3 ∨ k = 4 ∨ k = 5 ∨ k = 6 ∨ k = 7 := by omega
/-- A header's variable that was just made. -/
structure NewHd (W : World) (b : Nat) (h : Hd) : Prop where
 at_ : HdAt W b h
 free : ∀ j, W.frozen? ⟨b, j, none⟩ = false
theorem newHd (w : World) (h : Hd) (t : TypeId) : NewHd (w.alloc (.cells #[.int .i64 h.src, .int .i64 h.dst, .int .u32 h.seq, .int .u32 h.ack, .int .i64 h.flags, .int .i64 h.win, .int .i64 h.urg, .string h.opts] t)) w.heap.size h := by
 refine ⟨fun k hk => ?_, fun j => by simp [go_sem]⟩
 rcases each hk with rfl | rfl | rfl | rfl | rfl | rfl | rfl | rfl <;> simp [go_sem, hcell]
theorem NewHd.on {W W' : World} {b B : Nat} {h : Hd} (hh : NewHd W b h) (hb : Below B W W') (hB : b < B) : NewHd W' b h := ⟨hh.at_.on hb hB, fun j => (hb.frozen (p := ⟨b, j, none⟩) hB).trans (hh.free j)⟩
theorem NewHd.set {W : World} {b : Nat} {h : Hd} (hh : NewHd W b h) {p : Addr} (hp : p.block ≠ b) (v : Value) : NewHd (W.setCell p v) b h := ⟨hh.at_.set hp v, fun j => by rw [World.frozen?_setCell]; exact hh.free j⟩
/-- A header's variable that is kept while others are called. -/
structure Kept (w : World) (h : Hd) (W : World) : Prop where
 at_ : HdAt W w.heap.size h
 below : Below w.heap.size w W
 size : w.heap.size + 1 ≤ W.heap.size
theorem Kept.on {w W W' : World} {h : Hd} (k : Kept w h W) (hb : Below W.heap.size W W') : Kept w h W' :=
 ⟨k.at_.on hb (by have := k.size; omega), k.below.trans (hb.mono (by have := k.size; omega)), Nat.le_trans k.size hb.size⟩
theorem kept_new (w : World) (h : Hd) (t : TypeId) : Kept w h (w.alloc (.cells #[.int .i64 h.src, .int .i64 h.dst, .int .u32 h.seq, .int .u32 h.ack, .int .i64 h.flags, .int .i64 h.win, .int .i64 h.urg, .string h.opts] t)) :=
 ⟨(newHd w h t).at_, (Below.refl _ _).alloc (Nat.le_refl _) _, by simp⟩
theorem alloc_on (W : World) (o : Obj) : Below W.heap.size W (W.alloc o) := (Below.refl _ _).alloc (Nat.le_refl _) _
theorem NewHd.src {W : World} {b : Nat} {h : Hd} (hh : NewHd W b h) (x : Int) : NewHd (W.setCell ⟨b, 0, none⟩ (.int .i64 x)) b { h with src := x } := by
 refine ⟨fun k hk => ?_, fun j => by rw [World.frozen?_setCell]; exact hh.free j⟩
 by_cases e : k = 0
 ·subst e; exact World.cell?_setCell_same _ _ _ (hh.at_ 0 hk)
 ·rw [World.cell?_setCell_other _ _ _ _ (fun h => by cases h; omega), hh.at_ k hk]
  rcases each hk with rfl | rfl | rfl | rfl | rfl | rfl | rfl | rfl <;> first | rfl | exact absurd rfl e
theorem NewHd.dst {W : World} {b : Nat} {h : Hd} (hh : NewHd W b h) (x : Int) : NewHd (W.setCell ⟨b, 1, none⟩ (.int .i64 x)) b { h with dst := x } := by
 refine ⟨fun k hk => ?_, fun j => by rw [World.frozen?_setCell]; exact hh.free j⟩
 by_cases e : k = 1
 ·subst e; exact World.cell?_setCell_same _ _ _ (hh.at_ 1 hk)
 ·rw [World.cell?_setCell_other _ _ _ _ (fun h => by cases h; omega), hh.at_ k hk]
  rcases each hk with rfl | rfl | rfl | rfl | rfl | rfl | rfl | rfl <;> first | rfl | exact absurd rfl e
theorem NewHd.seq {W : World} {b : Nat} {h : Hd} (hh : NewHd W b h) (x : Int) : NewHd (W.setCell ⟨b, 2, none⟩ (.int .u32 x)) b { h with seq := x } := by
 refine ⟨fun k hk => ?_, fun j => by rw [World.frozen?_setCell]; exact hh.free j⟩
 by_cases e : k = 2
 ·subst e; exact World.cell?_setCell_same _ _ _ (hh.at_ 2 hk)
 ·rw [World.cell?_setCell_other _ _ _ _ (fun h => by cases h; omega), hh.at_ k hk]
  rcases each hk with rfl | rfl | rfl | rfl | rfl | rfl | rfl | rfl <;> first | rfl | exact absurd rfl e
theorem NewHd.ack {W : World} {b : Nat} {h : Hd} (hh : NewHd W b h) (x : Int) : NewHd (W.setCell ⟨b, 3, none⟩ (.int .u32 x)) b { h with ack := x } := by
 refine ⟨fun k hk => ?_, fun j => by rw [World.frozen?_setCell]; exact hh.free j⟩
 by_cases e : k = 3
 ·subst e; exact World.cell?_setCell_same _ _ _ (hh.at_ 3 hk)
 ·rw [World.cell?_setCell_other _ _ _ _ (fun h => by cases h; omega), hh.at_ k hk]
  rcases each hk with rfl | rfl | rfl | rfl | rfl | rfl | rfl | rfl <;> first | rfl | exact absurd rfl e
theorem NewHd.flags {W : World} {b : Nat} {h : Hd} (hh : NewHd W b h) (x : Int) : NewHd (W.setCell ⟨b, 4, none⟩ (.int .i64 x)) b { h with flags := x } := by
 refine ⟨fun k hk => ?_, fun j => by rw [World.frozen?_setCell]; exact hh.free j⟩
 by_cases e : k = 4
 ·subst e; exact World.cell?_setCell_same _ _ _ (hh.at_ 4 hk)
 ·rw [World.cell?_setCell_other _ _ _ _ (fun h => by cases h; omega), hh.at_ k hk]
  rcases each hk with rfl | rfl | rfl | rfl | rfl | rfl | rfl | rfl <;> first | rfl | exact absurd rfl e
theorem NewHd.win {W : World} {b : Nat} {h : Hd} (hh : NewHd W b h) (x : Int) : NewHd (W.setCell ⟨b, 5, none⟩ (.int .i64 x)) b { h with win := x } := by
 refine ⟨fun k hk => ?_, fun j => by rw [World.frozen?_setCell]; exact hh.free j⟩
 by_cases e : k = 5
 ·subst e; exact World.cell?_setCell_same _ _ _ (hh.at_ 5 hk)
 ·rw [World.cell?_setCell_other _ _ _ _ (fun h => by cases h; omega), hh.at_ k hk]
  rcases each hk with rfl | rfl | rfl | rfl | rfl | rfl | rfl | rfl <;> first | rfl | exact absurd rfl e
theorem NewHd.urg {W : World} {b : Nat} {h : Hd} (hh : NewHd W b h) (x : Int) : NewHd (W.setCell ⟨b, 6, none⟩ (.int .i64 x)) b { h with urg := x } := by
 refine ⟨fun k hk => ?_, fun j => by rw [World.frozen?_setCell]; exact hh.free j⟩
 by_cases e : k = 6
 ·subst e; exact World.cell?_setCell_same _ _ _ (hh.at_ 6 hk)
 ·rw [World.cell?_setCell_other _ _ _ _ (fun h => by cases h; omega), hh.at_ k hk]
  rcases each hk with rfl | rfl | rfl | rfl | rfl | rfl | rfl | rfl <;> first | rfl | exact absurd rfl e
theorem NewHd.opts {W : World} {b : Nat} {h : Hd} (hh : NewHd W b h) (x : ByteArray) : NewHd (W.setCell ⟨b, 7, none⟩ (.string x)) b { h with opts := x } := by
 refine ⟨fun k hk => ?_, fun j => by rw [World.frozen?_setCell]; exact hh.free j⟩
 by_cases e : k = 7
 ·subst e; exact World.cell?_setCell_same _ _ _ (hh.at_ 7 hk)
 ·rw [World.cell?_setCell_other _ _ _ _ (fun h => by cases h; omega), hh.at_ k hk]
  rcases each hk with rfl | rfl | rfl | rfl | rfl | rfl | rfl | rfl <;> first | rfl | exact absurd rfl e
end Go.Proofs.YtpjaajeojiaeiaaGreatDoor.Tc

/- What Right computes, and the reference's Right: each field has room, and the options are right. -/
namespace Go.Proofs.YtpjaajeojiaeiaaGreatDoor.Tc
open Go.ChangeShapes Go.WideShapes Go.ChangeAt Go.RowKit

set_option maxHeartbeats 400000 in
theorem toptsRight_any (s : ByteArray) (w : World) (hs : s.size ≤ 140737488355328) :
  Calls Tryz.prog 140 #[.string s] w fun e w' => e = .returned (.bool (optsOk s.data.toList)) ∧ w' = w := by
 go_enter Tryz.func140, Tryz.ntmps140
 go_wp2_with fail
 refine (optsRight_any s _ hs).mono ?_
 rintro e w' ⟨rfl, rfl⟩
 go_wp2_with fail
 go_ret
 exact ⟨rfl, rfl⟩

def inB (n m : Int) : Bool := decide (0 ≤ n) && decide (n ≤ m)
def optB (o : ByteArray) : Bool := decide (o.size ≤ 40) && decide (o.size % 4 = 0) && optsOk o.data.toList
def portsB (h : Hd) : Bool := okAll 65535 [h.src, h.dst, h.win, h.urg]
def flagsB (h : Hd) : Bool := okAll 4095 [h.flags]
def rightB (h : Hd) : Bool := portsB h && flagsB h && optB h.opts
theorem inB_iff (n m : Int) : inB n m = true ↔ 0 ≤ n ∧ n ≤ m := by unfold inB; simp
theorem portsB_in (h : Hd) : portsB h = (inB h.src 65535 && inB h.dst 65535 && inB h.win 65535 && inB h.urg 65535) := by
 unfold portsB okAll inB; simp [Bool.and_assoc]
theorem flagsB_in (h : Hd) : flagsB h = inB h.flags 4095 := by unfold flagsB okAll inB; simp
theorem word_any (n : Int) (w : World) : Calls Tryz.prog 117 #[.int .i64 n] w fun e w' => e = .returned (.bool (inB n 65535)) ∧ w' = w := by
 unfold inB
 by_cases h0 : 0 ≤ n
 ·rw [decide_eq_true h0, Bool.true_and]
  go_enter Tryz.func117, Tryz.ntmps117
  go_wp2_with fail
  go_ret
  exact ⟨rfl, rfl⟩
 ·rw [decide_eq_false h0, Bool.false_and]
  go_enter Tryz.func117, Tryz.ntmps117
  go_wp2_with fail
  go_ret
  exact ⟨rfl, rfl⟩

set_option maxRecDepth 100000 in
set_option maxHeartbeats 4000000 in
theorem rright_any (h : Hd) (w : World) (hw : h.Wf) :
  Calls Tryz.prog 78 #[h.val] w fun e w' => e = .returned (.bool (rightB h)) ∧ Below w.heap.size w w' := by
 have hos := hw.opts
 have hsz9 : (h.opts.size : Int) ≤ 140737488355328 := by omega
 clear hw
 cases s0 : inB h.src 65535 with
 | false =>
  have HR : Hid (rightB h = false) := by show _ = _; unfold rightB; rw [portsB_in, s0]; simp
  go_enter Tryz.func78, Tryz.ntmps78
  go_wp2_with fail
  refine (roptsRight_any _ _ hos).mono ?_
  rintro e w1 ⟨rfl, hq⟩
  have hq := hq.symm
  subst hq
  go_wp2_with fail
  refine (word_any _ _).mono ?_
  rintro e w1 ⟨rfl, hq⟩
  have hq := hq.symm
  subst hq
  rw [show inB h.src 65535 = false from s0]
  go_wp2_with fail
  go_ret
  refine ⟨ret_bool HR.out.symm, ?_⟩
  (repeat first | exact Below.refl _ _ | refine Below.drew ?_ | refine Below.alloc ?_ (by simp <;> omega) _ | refine Below.setCell ?_ (by simp <;> omega) _)
 | true =>
  cases s1 : inB h.dst 65535 with
  | false =>
   have HR : Hid (rightB h = false) := by show _ = _; unfold rightB; rw [portsB_in, s0, s1]; simp
   go_enter Tryz.func78, Tryz.ntmps78
   go_wp2_with fail
   refine (roptsRight_any _ _ hos).mono ?_
   rintro e w1 ⟨rfl, hq⟩
   have hq := hq.symm
   subst hq
   go_wp2_with fail
   refine (word_any _ _).mono ?_
   rintro e w1 ⟨rfl, hq⟩
   have hq := hq.symm
   subst hq
   rw [show inB h.src 65535 = true from s0]
   go_wp2_with fail
   refine (word_any _ _).mono ?_
   rintro e w1 ⟨rfl, hq⟩
   have hq := hq.symm
   subst hq
   rw [show inB h.dst 65535 = false from s1]
   go_wp2_with fail
   go_ret
   refine ⟨ret_bool HR.out.symm, ?_⟩
   (repeat first | exact Below.refl _ _ | refine Below.drew ?_ | refine Below.alloc ?_ (by simp <;> omega) _ | refine Below.setCell ?_ (by simp <;> omega) _)
  | true =>
   cases s2 : inB h.win 65535 with
   | false =>
    have HR : Hid (rightB h = false) := by show _ = _; unfold rightB; rw [portsB_in, s0, s1, s2]; simp
    go_enter Tryz.func78, Tryz.ntmps78
    go_wp2_with fail
    refine (roptsRight_any _ _ hos).mono ?_
    rintro e w1 ⟨rfl, hq⟩
    have hq := hq.symm
    subst hq
    go_wp2_with fail
    refine (word_any _ _).mono ?_
    rintro e w1 ⟨rfl, hq⟩
    have hq := hq.symm
    subst hq
    rw [show inB h.src 65535 = true from s0]
    go_wp2_with fail
    refine (word_any _ _).mono ?_
    rintro e w1 ⟨rfl, hq⟩
    have hq := hq.symm
    subst hq
    rw [show inB h.dst 65535 = true from s1]
    go_wp2_with fail
    refine (word_any _ _).mono ?_
    rintro e w1 ⟨rfl, hq⟩
    have hq := hq.symm
    subst hq
    rw [show inB h.win 65535 = false from s2]
    go_wp2_with fail
    go_ret
    refine ⟨ret_bool HR.out.symm, ?_⟩
    (repeat first | exact Below.refl _ _ | refine Below.drew ?_ | refine Below.alloc ?_ (by simp <;> omega) _ | refine Below.setCell ?_ (by simp <;> omega) _)
   | true =>
    cases s3 : inB h.urg 65535 with
    | false =>
     have HR : Hid (rightB h = false) := by show _ = _; unfold rightB; rw [portsB_in, s0, s1, s2, s3]; simp
     go_enter Tryz.func78, Tryz.ntmps78
     go_wp2_with fail
     refine (roptsRight_any _ _ hos).mono ?_
     rintro e w1 ⟨rfl, hq⟩
     have hq := hq.symm
     subst hq
     go_wp2_with fail
     refine (word_any _ _).mono ?_
     rintro e w1 ⟨rfl, hq⟩
     have hq := hq.symm
     subst hq
     rw [show inB h.src 65535 = true from s0]
     go_wp2_with fail
     refine (word_any _ _).mono ?_
     rintro e w1 ⟨rfl, hq⟩
     have hq := hq.symm
     subst hq
     rw [show inB h.dst 65535 = true from s1]
     go_wp2_with fail
     refine (word_any _ _).mono ?_
     rintro e w1 ⟨rfl, hq⟩
     have hq := hq.symm
     subst hq
     rw [show inB h.win 65535 = true from s2]
     go_wp2_with fail
     refine (word_any _ _).mono ?_
     rintro e w1 ⟨rfl, hq⟩
     have hq := hq.symm
     subst hq
     rw [show inB h.urg 65535 = false from s3]
     go_wp2_with fail
     go_ret
     refine ⟨ret_bool HR.out.symm, ?_⟩
     (repeat first | exact Below.refl _ _ | refine Below.drew ?_ | refine Below.alloc ?_ (by simp <;> omega) _ | refine Below.setCell ?_ (by simp <;> omega) _)
    | true =>
     have t0 : portsB h = true := by rw [portsB_in, s0, s1, s2, s3]; rfl
     by_cases hf0 : 0 ≤ h.flags
     case neg =>
      have HR : Hid (rightB h = false) := by show _ = _; unfold rightB; rw [flagsB_in]; unfold inB; rw [decide_eq_false hf0]; simp
      go_enter Tryz.func78, Tryz.ntmps78
      go_wp2_with fail
      refine (roptsRight_any _ _ hos).mono ?_
      rintro e w1 ⟨rfl, hq⟩
      have hq := hq.symm
      subst hq
      go_wp2_with fail
      refine (word_any _ _).mono ?_
      rintro e w1 ⟨rfl, hq⟩
      have hq := hq.symm
      subst hq
      rw [show inB h.src 65535 = true from s0]
      go_wp2_with fail
      refine (word_any _ _).mono ?_
      rintro e w1 ⟨rfl, hq⟩
      have hq := hq.symm
      subst hq
      rw [show inB h.dst 65535 = true from s1]
      go_wp2_with fail
      refine (word_any _ _).mono ?_
      rintro e w1 ⟨rfl, hq⟩
      have hq := hq.symm
      subst hq
      rw [show inB h.win 65535 = true from s2]
      go_wp2_with fail
      refine (word_any _ _).mono ?_
      rintro e w1 ⟨rfl, hq⟩
      have hq := hq.symm
      subst hq
      rw [show inB h.urg 65535 = true from s3]
      go_wp2_with fail
      go_ret
      refine ⟨ret_bool HR.out.symm, ?_⟩
      (repeat first | exact Below.refl _ _ | refine Below.drew ?_ | refine Below.alloc ?_ (by simp <;> omega) _ | refine Below.setCell ?_ (by simp <;> omega) _)
     case pos =>
      by_cases hf1 : h.flags ≤ 4095
      case neg =>
       have HR : Hid (rightB h = false) := by show _ = _; unfold rightB; rw [flagsB_in]; unfold inB; rw [decide_eq_false hf1]; simp
       go_enter Tryz.func78, Tryz.ntmps78
       go_wp2_with fail
       refine (roptsRight_any _ _ hos).mono ?_
       rintro e w1 ⟨rfl, hq⟩
       have hq := hq.symm
       subst hq
       go_wp2_with fail
       refine (word_any _ _).mono ?_
       rintro e w1 ⟨rfl, hq⟩
       have hq := hq.symm
       subst hq
       rw [show inB h.src 65535 = true from s0]
       go_wp2_with fail
       refine (word_any _ _).mono ?_
       rintro e w1 ⟨rfl, hq⟩
       have hq := hq.symm
       subst hq
       rw [show inB h.dst 65535 = true from s1]
       go_wp2_with fail
       refine (word_any _ _).mono ?_
       rintro e w1 ⟨rfl, hq⟩
       have hq := hq.symm
       subst hq
       rw [show inB h.win 65535 = true from s2]
       go_wp2_with fail
       refine (word_any _ _).mono ?_
       rintro e w1 ⟨rfl, hq⟩
       have hq := hq.symm
       subst hq
       rw [show inB h.urg 65535 = true from s3]
       go_wp2_with fail
       go_ret
       refine ⟨ret_bool HR.out.symm, ?_⟩
       (repeat first | exact Below.refl _ _ | refine Below.drew ?_ | refine Below.alloc ?_ (by simp <;> omega) _ | refine Below.setCell ?_ (by simp <;> omega) _)
      case pos =>
       have t1 : flagsB h = true := by rw [flagsB_in]; exact (inB_iff _ _).2 ⟨hf0, hf1⟩
       by_cases h40 : h.opts.size ≤ 40
       case neg =>
        have d40 : decide ((h.opts.size : Int) ≤ 40) = false := by simp; omega
        have HR : Hid (rightB h = false) := by show _ = _; unfold rightB optB; rw [t0, t1, decide_eq_false h40]; rfl
        go_enter Tryz.func78, Tryz.ntmps78
        go_wp2_with fail
        refine (roptsRight_any _ _ hos).mono ?_
        rintro e w1 ⟨rfl, hq⟩
        have hq := hq.symm
        subst hq
        go_wp2_with fail
        refine (word_any _ _).mono ?_
        rintro e w1 ⟨rfl, hq⟩
        have hq := hq.symm
        subst hq
        rw [show inB h.src 65535 = true from s0]
        go_wp2_with fail
        refine (word_any _ _).mono ?_
        rintro e w1 ⟨rfl, hq⟩
        have hq := hq.symm
        subst hq
        rw [show inB h.dst 65535 = true from s1]
        go_wp2_with fail
        refine (word_any _ _).mono ?_
        rintro e w1 ⟨rfl, hq⟩
        have hq := hq.symm
        subst hq
        rw [show inB h.win 65535 = true from s2]
        go_wp2_with fail
        refine (word_any _ _).mono ?_
        rintro e w1 ⟨rfl, hq⟩
        have hq := hq.symm
        subst hq
        rw [show inB h.urg 65535 = true from s3]
        go_wp2_with fail
        go_ret
        refine ⟨ret_bool HR.out.symm, ?_⟩
        (repeat first | exact Below.refl _ _ | refine Below.drew ?_ | refine Below.alloc ?_ (by simp <;> omega) _ | refine Below.setCell ?_ (by simp <;> omega) _)
       case pos =>
        have d40 : decide ((h.opts.size : Int) ≤ 40) = true := by simp; omega
        by_cases h4 : h.opts.size % 4 = 0
        case neg =>
         have d4 : ¬ ((h.opts.size : Int) % 4 = 0) := by omega
         have HR : Hid (rightB h = false) := by show _ = _; unfold rightB optB; rw [t0, t1, decide_eq_true h40, decide_eq_false h4]; rfl
         go_enter Tryz.func78, Tryz.ntmps78
         go_wp2_with fail
         refine (roptsRight_any _ _ hos).mono ?_
         rintro e w1 ⟨rfl, hq⟩
         have hq := hq.symm
         subst hq
         go_wp2_with fail
         refine (word_any _ _).mono ?_
         rintro e w1 ⟨rfl, hq⟩
         have hq := hq.symm
         subst hq
         rw [show inB h.src 65535 = true from s0]
         go_wp2_with fail
         refine (word_any _ _).mono ?_
         rintro e w1 ⟨rfl, hq⟩
         have hq := hq.symm
         subst hq
         rw [show inB h.dst 65535 = true from s1]
         go_wp2_with fail
         refine (word_any _ _).mono ?_
         rintro e w1 ⟨rfl, hq⟩
         have hq := hq.symm
         subst hq
         rw [show inB h.win 65535 = true from s2]
         go_wp2_with fail
         refine (word_any _ _).mono ?_
         rintro e w1 ⟨rfl, hq⟩
         have hq := hq.symm
         subst hq
         rw [show inB h.urg 65535 = true from s3]
         go_wp2_with fail
         go_ret
         refine ⟨ret_bool HR.out.symm, ?_⟩
         (repeat first | exact Below.refl _ _ | refine Below.drew ?_ | refine Below.alloc ?_ (by simp <;> omega) _ | refine Below.setCell ?_ (by simp <;> omega) _)
        case pos =>
         have d4 : (h.opts.size : Int) % 4 = 0 := by omega
         have HR : Hid (rightB h = optsOk h.opts.data.toList) := by show _ = _; unfold rightB optB; rw [t0, t1, decide_eq_true h40, decide_eq_true h4]; rfl
         go_enter Tryz.func78, Tryz.ntmps78
         go_wp2_with fail
         refine (roptsRight_any _ _ hos).mono ?_
         rintro e w1 ⟨rfl, hq⟩
         have hq := hq.symm
         subst hq
         go_wp2_with fail
         refine (word_any _ _).mono ?_
         rintro e w1 ⟨rfl, hq⟩
         have hq := hq.symm
         subst hq
         rw [show inB h.src 65535 = true from s0]
         go_wp2_with fail
         refine (word_any _ _).mono ?_
         rintro e w1 ⟨rfl, hq⟩
         have hq := hq.symm
         subst hq
         rw [show inB h.dst 65535 = true from s1]
         go_wp2_with fail
         refine (word_any _ _).mono ?_
         rintro e w1 ⟨rfl, hq⟩
         have hq := hq.symm
         subst hq
         rw [show inB h.win 65535 = true from s2]
         go_wp2_with fail
         refine (word_any _ _).mono ?_
         rintro e w1 ⟨rfl, hq⟩
         have hq := hq.symm
         subst hq
         rw [show inB h.urg 65535 = true from s3]
         go_wp2_with fail
         go_ret
         refine ⟨ret_bool HR.out.symm, ?_⟩
         (repeat first | exact Below.refl _ _ | refine Below.drew ?_ | refine Below.alloc ?_ (by simp <;> omega) _ | refine Below.setCell ?_ (by simp <;> omega) _)
end Go.Proofs.YtpjaajeojiaeiaaGreatDoor.Tc
