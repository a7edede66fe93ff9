/- Contracts and mathematics of the layers below (IpOpts, IpHd, IpSetH, IpHead, IpRight, IpRefR). -/
import Derived.Test.YtpjaajeojiaeiaaGreatDoorBs
import Derived.Test.YtpjaajeojiaeiaaGreatDoorCk
import Derived.Test.YtpjaajeojiaeiaaGreatDoorIpA
import Derived.Test.YtpjaajeojiaeiaaGreatDoorRg
/- What optSize and OptsRight compute, and what the reference's OptsRight computes: the same plain function of the bytes. -/
namespace Go.Proofs.YtpjaajeojiaeiaaGreatDoor.Ip
open Go.ChangeShapes Go.WideShapes Go.ChangeAt Go.RowKit

/-- Options one behind the other. -/
def optsOk (l : List UInt8) : Bool :=
 match l with
 | [] => true
 | [k] => k == 0 || k == 1
 | k :: n :: r => if k = 0 then true else if k = 1 then optsOk (n :: r) else decide (2 ≤ n.toNat) && decide (n.toNat ≤ r.length + 2) && optsOk (r.drop (n.toNat - 2))
 termination_by l.length
 decreasing_by all_goals simp; try omega

theorem opts_nil : optsOk [] = true := by unfold optsOk; rfl
theorem drop_head (l : List UInt8) (i : Nat) (h : i < l.length) : l.drop i = l.getD i 0 :: l.drop (i + 1) := by
 rw [List.drop_eq_getElem_cons h, List.getD_eq_getElem?_getD, List.getElem?_eq_getElem h]; rfl
theorem opts_end (l : List UInt8) (i : Nat) (h : l.length ≤ i) : optsOk (l.drop i) = true := by rw [List.drop_of_length_le h]; exact opts_nil
theorem opts_zero (l : List UInt8) (i : Nat) (h : i < l.length) (hk : l.getD i 0 = 0) : optsOk (l.drop i) = true := by
 rw [drop_head l i h, hk]
 cases l.drop (i + 1) with
 | nil => unfold optsOk; rfl
 | cons n r => unfold optsOk; rfl
theorem opts_one (l : List UInt8) (i : Nat) (h : i < l.length) (hk : l.getD i 0 = 1) : optsOk (l.drop i) = optsOk (l.drop (i + 1)) := by
 rw [drop_head l i h, hk]
 cases l.drop (i + 1) with
 | nil => rw [opts_nil]; unfold optsOk; rfl
 | cons n r => rw [optsOk]; rfl
theorem opts_last (l : List UInt8) (i : Nat) (h : i + 1 = l.length) (h0 : l.getD i 0 ≠ 0) (h1 : l.getD i 0 ≠ 1) : optsOk (l.drop i) = false := by
 rw [drop_head l i (by omega), List.drop_of_length_le (by omega)]
 unfold optsOk
 rw [beq_eq_false_iff_ne.2 h0, beq_eq_false_iff_ne.2 h1]; rfl
theorem opts_long (l : List UInt8) (i n : Nat) (h : i + 1 < l.length) (h0 : l.getD i 0 ≠ 0) (h1 : l.getD i 0 ≠ 1) (hn : (l.getD (i + 1) 0).toNat = n) :
  optsOk (l.drop i) = (decide (2 ≤ n) && decide (i + n ≤ l.length) && optsOk (l.drop (i + n))) := by
 rw [drop_head l i (by omega), drop_head l (i + 1) h]
 rw [optsOk, if_neg h0, if_neg h1, hn]
 by_cases h2 : 2 ≤ n
 ·rw [List.drop_drop, show i + 1 + 1 + (n - 2) = i + n by omega]
  rw [List.length_drop]
  have : decide (n ≤ l.length - (i + 1 + 1) + 2) = decide (i + n ≤ l.length) := by rw [decide_eq_decide]; omega
  rw [this]
 ·rw [decide_eq_false h2]; rfl

def strOf : Value → ByteArray
 | .string s => s
 | _ => ⟨#[]⟩
theorem getD_byte (s : ByteArray) (i : Nat) (h : i < s.size) : s.data.toList.getD i 0 = s[i] := by
 rw [List.getD_eq_getElem?_getD, List.getElem?_eq_getElem (by rw [Oct.len_eq]; exact h)]; rfl

theorem got11 (s : ByteArray) (h : 1 < s.size) : got s 1 1 = (s[1].toNat : Int) ∧ gotB s 1 1 = true := by
 have hb : gotB s 1 1 = true := (gotB_iff s 1 1).2 ⟨⟨by omega, by omega⟩, by omega, by omega⟩
 refine ⟨?_, hb⟩
 rw [got, if_pos hb]
 show ((Oct.num ((s.data.toList.drop 1).take 1) : Nat) : Int) = _
 rw [drop_head _ 1 (by rw [Oct.len_eq]; omega), getD_byte s 1 h]
 simp [Oct.num]
theorem got11_no (s : ByteArray) (h : ¬ 1 < s.size) : got s 1 1 = 0 ∧ gotB s 1 1 = false := by
 have hb : gotB s 1 1 = false := by
  cases hb : gotB s 1 1 with
  | false => rfl
  | true => obtain ⟨_, _, h3⟩ := (gotB_iff s 1 1).1 hb; omega
 exact ⟨by rw [got, if_neg (by rw [hb]; decide)], hb⟩
theorem u8ne (a : UInt8) (n : Nat) (h : a ≠ UInt8.ofNat n) : ¬ ((a.toNat : Int) = n) := fun e => h (by rw [← UInt8.ofNat_toNat (x := a)]; congr 1; omega)

set_option maxHeartbeats 400000 in
theorem optSize_one (s : ByteArray) (w : World) (h : 0 < s.size) (hk : s[0] = 1) :
  Calls Tryz.prog 103 #[.string s] w fun e w' => e = .returned (.tuple #[.int .i64 1, .bool true]) ∧ w' = w := by
 have hk' : ((s[0].toNat : Nat) : Int) = 1 := by rw [hk]; rfl
 clear hk
 go_enter Tryz.func103, Tryz.ntmps103
 go_wp2_with fail
 go_ret2
 exact ⟨rfl, rfl⟩

set_option maxHeartbeats 400000 in
theorem optSize_none (s : ByteArray) (w : World) (h : s.size = 1) (hk : s[0] ≠ 1) (hs : s.size ≤ maxLen) :
  Calls Tryz.prog 103 #[.string s] w fun e w' => e = .returned (.tuple #[.int .i64 0, .bool false]) ∧ w' = w := by
 have hk' : ¬ ((s[0].toNat : Int) = 1) := u8ne _ 1 hk
 have h0 : 0 < s.size := by omega
 obtain ⟨g1, g2⟩ := got11_no s (by omega)
 have hg := fun u => get_any s 1 1 u hs
 rw [g1, g2] at hg
 clear hk g1 g2
 go_enter Tryz.func103, Tryz.ntmps103
 go_wp2_with fail
 refine (hg _).mono ?_
 rintro e w' ⟨rfl, rfl⟩
 go_wp2_with fail
 go_ret2
 exact ⟨rfl, rfl⟩

set_option maxHeartbeats 400000 in
theorem optSize_some (s : ByteArray) (w : World) (h : 1 < s.size) (hk : s[0] ≠ 1) (hs : s.size ≤ maxLen) :
  Calls Tryz.prog 103 #[.string s] w fun e w' => e = .returned (.tuple #[.int .i64 s[1].toNat, .bool (decide (2 ≤ s[1].toNat) && decide (s[1].toNat ≤ s.size))]) ∧ w' = w := by
 have hk' : ¬ ((s[0].toNat : Int) = 1) := u8ne _ 1 hk
 have h0 : 0 < s.size := by omega
 obtain ⟨g1, g2⟩ := got11 s h
 have hg := fun u => get_any s 1 1 u hs
 rw [g1, g2] at hg
 have hb := s[1].toNat_lt
 obtain ⟨n, hn⟩ : ∃ n : Nat, s[1].toNat = n := ⟨_, rfl⟩
 rw [hn] at hg hb ⊢
 clear hk g1 g2 hn
 unfold maxLen at hs
 by_cases h2 : 2 ≤ n
 ·by_cases h3 : n ≤ s.size
  ·have d1 : decide (2 ≤ n) = true := by simpa using h2
   have d2 : decide (n ≤ s.size) = true := by simpa using h3
   rw [d1, d2]
   go_enter Tryz.func103, Tryz.ntmps103
   go_wp2_with fail
   refine (hg _).mono ?_
   rintro e w' ⟨rfl, rfl⟩
   go_wp2_with fail
   go_ret2
   exact ⟨rfl, rfl⟩
  ·have d2 : decide (n ≤ s.size) = false := by simpa using h3
   rw [d2, Bool.and_false]
   go_enter Tryz.func103, Tryz.ntmps103
   go_wp2_with fail
   refine (hg _).mono ?_
   rintro e w' ⟨rfl, rfl⟩
   go_wp2_with fail
   go_ret2
   exact ⟨rfl, rfl⟩
 ·have d1 : decide (2 ≤ n) = false := by simpa using h2
  rw [d1, Bool.false_and]
  go_enter Tryz.func103, Tryz.ntmps103
  go_wp2_with fail
  refine (hg _).mono ?_
  rintro e w' ⟨rfl, rfl⟩
  go_wp2_with fail
  go_ret2
  exact ⟨rfl, rfl⟩

theorem ret_bool {a b : Bool} (h : a = b) : Ending.returned (.bool a) = .returned (.bool b) := by rw [h]

set_option maxHeartbeats 1000000 in
theorem optsRight_any (s : ByteArray) (w : World) (hs : s.size ≤ 140737488355328) :
  Calls Tryz.prog 67 #[.string s] w fun e w' => e = .returned (.bool (optsOk s.data.toList)) ∧ w' = w := by
 go_enter Tryz.func67, Tryz.ntmps67
 go_wp2
 go_loop [0] (fun t => ∃ x : ByteArray, x.size ≤ s.size ∧ t = .string x ∧ optsOk x.data.toList = optsOk s.data.toList) (fun t => (strOf t).size)
 case atStart => exact ⟨s, Nat.le_refl _, rfl, rfl⟩
 case round =>
  obtain ⟨x, hx, rfl, ho⟩ := hrel
  have hl := Oct.len_eq x
  have HO := hide ho
  clear ho
  have hxm : x.size ≤ maxLen := by unfold maxLen; omega
  by_cases he : x.size = 0
  ·have HR : Hid (true = optsOk s.data.toList) := by
    show _ = _
    rw [← unhide HO]; have := opts_end x.data.toList 0 (by omega); rw [List.drop_zero] at this; exact this.symm
   go_wp2_with fail
   go_ret
   exact ⟨ret_bool HR.out, rfl⟩
  ·have h0 : 0 < x.size := by omega
   have hb0 := getD_byte x 0 h0
   by_cases hz : x[0] = 0
   ·have hz' : (x[0].toNat : Int) = 0 := by rw [hz]; rfl
    have HR : Hid (true = optsOk s.data.toList) := by
     show _ = _
     rw [← unhide HO]; have := opts_zero x.data.toList 0 (by omega) (by rw [hb0, hz]); rw [List.drop_zero] at this; exact this.symm
    clear hz hb0 he
    go_wp2_with fail
    go_ret
    exact ⟨ret_bool HR.out, rfl⟩
   ·have hz' : ¬ ((x[0].toNat : Int) = 0) := u8ne _ 0 hz
    by_cases ho : x[0] = 1
    ·have HR : Hid (optsOk (x.extract 1 x.size).data.toList = optsOk s.data.toList) := by
      show _ = _
      rw [← unhide HO]; have := opts_one x.data.toList 0 (by omega) (by rw [hb0, ho]); rw [List.drop_zero] at this
      rw [this, Oct.ext_list, List.take_of_length_le (by omega)]
     have hsz1 := Oct.ext_size x 1 x.size (Nat.le_refl _)
     have hq : (1 : Int) ≤ x.size := by omega
     have HC := fun u => optSize_one x u h0 ho
     clear hb0 hz ho
     go_wp2_with fail
     refine (HC _).mono ?_
     rintro e w' ⟨rfl, rfl⟩
     go_wp2_with fail
     go_round
     case rel => exact ⟨x.extract 1 x.size, by omega, rfl, HR.out⟩
     case measure => simp only [strOf]; omega
    ·by_cases h1 : x.size = 1
     ·have HR : Hid (false = optsOk s.data.toList) := by
       show _ = _
       rw [← unhide HO]; have := opts_last x.data.toList 0 (by omega) (by rw [hb0]; exact hz) (by rw [hb0]; exact ho); rw [List.drop_zero] at this; exact this.symm
      have HC := fun u => optSize_none x u h1 ho hxm
      clear hb0 hz ho
      go_wp2_with fail
      refine (HC _).mono ?_
      rintro e w' ⟨rfl, rfl⟩
      go_wp2_with fail
      go_ret
      exact ⟨ret_bool HR.out, rfl⟩
     ·have h2 : 1 < x.size := by omega
      have hb1 := getD_byte x 1 h2
      have HL := opts_long x.data.toList 0 x[1].toNat (by omega) (by rw [hb0]; exact hz) (by rw [hb0]; exact ho) (by rw [hb1])
      rw [List.drop_zero, Nat.zero_add, hl] at HL
      have HC := fun u => optSize_some x u h2 ho hxm
      obtain ⟨n, hn⟩ : ∃ n : Nat, x[1].toNat = n := ⟨_, rfl⟩
      rw [hn] at HL HC
      have HL := hide HL
      cases hd : (decide (2 ≤ n) && decide (n ≤ x.size)) with
      | false =>
       have HR : Hid (false = optsOk s.data.toList) := by
        show _ = _
        rw [← unhide HO, unhide HL, hd]; rfl
       rw [hd] at HC
       clear hb0 hb1 hz ho hn hd
       go_wp2_with fail
       refine (HC _).mono ?_
       rintro e w' ⟨rfl, rfl⟩
       go_wp2_with fail
       go_ret
       exact ⟨ret_bool HR.out, rfl⟩
      | true =>
       have HR : Hid (optsOk (x.extract n x.size).data.toList = optsOk s.data.toList) := by
        show _ = _
        rw [← unhide HO, unhide HL, hd, Bool.true_and, Oct.ext_list, List.take_of_length_le (by omega)]
       rw [hd] at HC
       have hn2 : 2 ≤ n ∧ n ≤ x.size := by simpa using hd
       obtain ⟨hn2, hn3⟩ := hn2
       have hsz1 := Oct.ext_size x n x.size (Nat.le_refl _)
       clear hb0 hb1 hz ho hn hd
       go_wp2_with fail
       refine (HC _).mono ?_
       rintro e w' ⟨rfl, rfl⟩
       go_wp2_with fail
       go_round
       case rel => exact ⟨x.extract n x.size, by omega, by simp, HR.out⟩
       case measure => simp only [strOf]; simp; omega

set_option maxHeartbeats 1000000 in
theorem roptsRight_any (s : ByteArray) (w : World) (hs : s.size ≤ 140737488355328) :
  Calls Tryz.prog 75 #[.string s] w fun e w' => e = .returned (.bool (optsOk s.data.toList)) ∧ w' = w := by
 have hl := Oct.len_eq s
 go_enter Tryz.func75, Tryz.ntmps75
 go_wp2
 go_loop [3] (fun t => ∃ i : Nat, i ≤ s.size ∧ t = .int .i64 i ∧ optsOk (s.data.toList.drop i) = optsOk s.data.toList) (fun t => s.size - (intOf t).toNat)
 case atStart => exact ⟨0, Nat.zero_le _, rfl, rfl⟩
 case round =>
  obtain ⟨i, hi, rfl, ho⟩ := hrel
  have HO := hide ho
  clear ho
  by_cases he : i = s.size
  ·have HR : Hid (true = optsOk s.data.toList) := by
    show _ = _
    rw [← unhide HO]; exact (opts_end s.data.toList i (by omega)).symm
   have hd : decide ((i : Int) < s.size) = false := by simp; omega
   go_wp2_with fail
   go_ret
   exact ⟨ret_bool HR.out, rfl⟩
  ·have h0 : i < s.size := by omega
   have hb0 := getD_byte s i h0
   by_cases hz : s[i] = 0
   ·have hz' : (s[i].toNat : Int) = 0 := by rw [hz]; rfl
    have HR : Hid (true = optsOk s.data.toList) := by
     show _ = _
     rw [← unhide HO]; exact (opts_zero s.data.toList i (by omega) (by rw [hb0, hz])).symm
    clear hz hb0 he
    go_wp2_with fail
    go_ret
    exact ⟨ret_bool HR.out, rfl⟩
   ·have hz' : ¬ ((s[i].toNat : Int) = 0) := u8ne _ 0 hz
    by_cases ho : s[i] = 1
    ·have ho' : (s[i].toNat : Int) = 1 := by rw [ho]; rfl
     have HR : Hid (optsOk (s.data.toList.drop (i + 1)) = optsOk s.data.toList) := by
      show _ = _
      rw [← unhide HO]; exact (opts_one s.data.toList i (by omega) (by rw [hb0, ho])).symm
     clear hb0 hz ho
     go_wp2_with fail
     go_round
     case rel => exact ⟨i + 1, by omega, by go_num, HR.out⟩
     case measure => simp [intOf]; omega
    ·have ho' : ¬ ((s[i].toNat : Int) = 1) := u8ne _ 1 ho
     by_cases h1 : i + 1 = s.size
     ·have HR : Hid (false = optsOk s.data.toList) := by
       show _ = _
       rw [← unhide HO]; exact (opts_last s.data.toList i (by omega) (by rw [hb0]; exact hz) (by rw [hb0]; exact ho)).symm
      have hd : decide ((s.size : Int) ≤ i + 1) = true := by simp; omega
      clear hb0 hz ho
      go_wp2_with fail
      go_ret
      exact ⟨ret_bool HR.out, rfl⟩
     ·have h2 : i + 1 < s.size := by omega
      have hb1 := getD_byte s (i + 1) h2
      have hlt := s[i + 1].toNat_lt
      have HL := opts_long s.data.toList i s[i + 1].toNat (by omega) (by rw [hb0]; exact hz) (by rw [hb0]; exact ho) (by rw [hb1])
      rw [hl] at HL
      have HL := hide HL
      have hd : decide ((s.size : Int) ≤ i + 1) = false := by simp; omega
      clear hb0 hb1 hz ho
      by_cases h3 : s[i + 1].toNat < 2
      ·have HR : Hid (false = optsOk s.data.toList) := by
        show _ = _
        rw [← unhide HO, unhide HL, decide_eq_false (by omega)]; rfl
       go_wp2_with fail
       go_ret
       exact ⟨ret_bool HR.out, rfl⟩
      ·by_cases h4 : s.size < i + s[i + 1].toNat
       ·have HR : Hid (false = optsOk s.data.toList) := by
         show _ = _
         rw [← unhide HO, unhide HL, decide_eq_false (p := i + _ ≤ _) (by omega), Bool.and_false]; rfl
        go_wp2_with fail
        go_ret
        exact ⟨ret_bool HR.out, rfl⟩
       ·have HR : Hid (optsOk (s.data.toList.drop (i + s[i + 1].toNat)) = optsOk s.data.toList) := by
         show _ = _
         rw [← unhide HO, unhide HL, decide_eq_true (p := 2 ≤ _) (by omega), decide_eq_true (p := i + _ ≤ _) (by omega)]; rfl
        go_wp2_with fail
        go_round
        case rel => exact ⟨i + s[i + 1].toNat, by omega, by go_num, HR.out⟩
        case measure => simp [intOf]; omega
end Go.Proofs.YtpjaajeojiaeiaaGreatDoor.Ip

/- A header as a value; its fixed part; the reference's header and its small functions. -/
namespace Go.Proofs.YtpjaajeojiaeiaaGreatDoor.Ip
open Go.ChangeShapes Go.WideShapes Go.ChangeAt Go.RowKit

structure Hd where
 tos : Int
 id : Int
 flags : Int
 frag : Int
 ttl : Int
 proto : Int
 src : Int
 dst : Int
 opts : ByteArray
/-- The numbers fit their kinds; the options are no longer than any text. -/
structure Hd.Wf (h : Hd) : Prop where
 tos : -9223372036854775808 ≤ h.tos ∧ h.tos ≤ 9223372036854775807
 id : -9223372036854775808 ≤ h.id ∧ h.id ≤ 9223372036854775807
 flags : -9223372036854775808 ≤ h.flags ∧ h.flags ≤ 9223372036854775807
 frag : -9223372036854775808 ≤ h.frag ∧ h.frag ≤ 9223372036854775807
 ttl : -9223372036854775808 ≤ h.ttl ∧ h.ttl ≤ 9223372036854775807
 proto : -9223372036854775808 ≤ h.proto ∧ h.proto ≤ 9223372036854775807
 src : 0 ≤ h.src ∧ h.src ≤ 4294967295
 dst : 0 ≤ h.dst ∧ h.dst ≤ 4294967295
 opts : h.opts.size ≤ 140737488355328
abbrev Hd.val (h : Hd) : Value := .agg #[.int .i64 h.tos, .int .i64 h.id, .int .i64 h.flags, .int .i64 h.frag, .int .i64 h.ttl, .int .i64 h.proto, .int .u32 h.src, .int .u32 h.dst, .string h.opts]

/-- Twelve numbers as a function of their place. -/
def fx (a0 a1 a2 a3 a4 a5 a6 a7 a8 a9 a10 a11 : Int) : Nat → Int
 | 0 => a0 | 1 => a1 | 2 => a2 | 3 => a3 | 4 => a4 | 5 => a5 | 6 => a6 | 7 => a7 | 8 => a8 | 9 => a9 | 10 => a10 | _ => a11
/-- The fixed part of h, with this total and this check. -/
def hfix (h : Hd) (total check : Int) : Nat → Int := fx 4 ((20 + h.opts.size) / 4) h.tos total h.id h.flags h.frag h.ttl h.proto check h.src h.dst
abbrev fixVal (F : Nat → Int) : Value := .agg #[.int .i64 (F 0), .int .i64 (F 1), .int .i64 (F 2), .int .i64 (F 3), .int .i64 (F 4), .int .i64 (F 5), .int .i64 (F 6), .int .i64 (F 7), .int .i64 (F 8), .int .i64 (F 9), .int .i64 (F 10), .int .i64 (F 11)]

set_option maxHeartbeats 400000 in
theorem in_any (n m : Int) (w : World) :
  Calls Tryz.prog 76 #[.int .i64 n, .int .i64 m] w fun e w' => e = .returned (.bool (decide (0 ≤ n) && decide (n ≤ m))) ∧ w' = w := by
 by_cases h0 : 0 ≤ n
 ·rw [decide_eq_true h0, Bool.true_and]
  go_enter Tryz.func76, Tryz.ntmps76
  go_wp2_with fail
  go_ret
  exact ⟨rfl, rfl⟩
 ·rw [decide_eq_false h0, Bool.false_and]
  go_enter Tryz.func76, Tryz.ntmps76
  go_wp2_with fail
  go_ret
  exact ⟨rfl, rfl⟩

set_option maxHeartbeats 400000 in
theorem num_any (size n : Int) (w : World) :
  Calls Tryz.prog 45 #[.int .i64 size, .int .i64 n] w fun e w' => e = .returned (.string (laid size n)) ∧ Below w.heap.size w w' := by
 go_enter Tryz.func45, Tryz.ntmps45
 go_wp2_with fail
 refine (rput_any _ _ _).mono ?_
 rintro e w' ⟨rfl, hb⟩
 go_wp2_with fail
 go_ret
 exact ⟨rfl, hb⟩

set_option maxHeartbeats 400000 in
theorem nget_any (s : ByteArray) (pos size : Int) (w : World) (hs : s.size ≤ maxLen) :
  Calls Tryz.prog 124 #[.string s, .int .i64 pos, .int .i64 size] w fun e w' => e = .returned (.int .i64 (got s pos size)) ∧ w' = w := by
 go_enter Tryz.func124, Tryz.ntmps124
 go_wp2_with fail
 refine (rget_any _ _ _ _ hs).mono ?_
 rintro e w' ⟨rfl, rfl⟩
 go_wp2_with fail
 go_ret
 exact ⟨rfl, rfl⟩
end Go.Proofs.YtpjaajeojiaeiaaGreatDoor.Ip

/- A header stored at the head of a block, and what lies there then. -/
namespace Go.Proofs.YtpjaajeojiaeiaaGreatDoor.Ip
open Go.RowKit

/-- A header's nine cells. -/
def hcell (h : Hd) : Nat → Value
 | 0 => .int .i64 h.tos | 1 => .int .i64 h.id | 2 => .int .i64 h.flags | 3 => .int .i64 h.frag | 4 => .int .i64 h.ttl | 5 => .int .i64 h.proto | 6 => .int .u32 h.src | 7 => .int .u32 h.dst | _ => .string h.opts
def HdAt (W : World) (b : Nat) (h : Hd) : Prop := ∀ k, k < 9 → W.cell? ⟨b, k, none⟩ = some (hcell h k)
theorem HdAt.on {W W' : World} {b B : Nat} {h : Hd} (hh : HdAt W b h) (hb : Below B W W') (hB : b < B) : HdAt W' b h := fun k hk => (hb.cell (p := ⟨b, k, none⟩) hB).trans (hh k hk)
theorem HdAt.putObj {W : World} {b l : Nat} {h : Hd} (hh : HdAt W b h) (hl : b ≠ l) (o : Obj) : HdAt (W.putObj l o) b h := fun k hk => (cell_putObj hl).trans (hh k hk)
def setHd (W : World) (b : Nat) (h : Hd) : World := ((((((((W.setCell ⟨b, 0, none⟩ (.int .i64 h.tos)).setCell ⟨b, 1, none⟩ (.int .i64 h.id)).setCell ⟨b, 2, none⟩ (.int .i64 h.flags)).setCell ⟨b, 3, none⟩ (.int .i64 h.frag)).setCell ⟨b, 4, none⟩ (.int .i64 h.ttl)).setCell ⟨b, 5, none⟩ (.int .i64 h.proto)).setCell ⟨b, 6, none⟩ (.int .u32 h.src)).setCell ⟨b, 7, none⟩ (.int .u32 h.dst)).setCell ⟨b, 8, none⟩ (.string h.opts)
theorem setHd_below {B : Nat} {U W : World} (h : Below B U W) (b : Nat) (x : Hd) (hb : B ≤ b) : Below B U (setHd W b x) :=
 (((((((((h).setCell (p := ⟨b, 0, none⟩) hb _).setCell (p := ⟨b, 1, none⟩) hb _).setCell (p := ⟨b, 2, none⟩) hb _).setCell (p := ⟨b, 3, none⟩) hb _).setCell (p := ⟨b, 4, none⟩) hb _).setCell (p := ⟨b, 5, none⟩) hb _).setCell (p := ⟨b, 6, none⟩) hb _).setCell (p := ⟨b, 7, none⟩) hb _).setCell (p := ⟨b, 8, none⟩) hb _
theorem hd_step {W : World} {b : Nat} {f g : Nat → Value} (j : Nat) (v : Value) (hv : v = f j) (h : ∀ k, k < 9 → W.cell? ⟨b, k, none⟩ = some (if k < j then f k else g k)) : ∀ k, k < 9 → (W.setCell ⟨b, j, none⟩ v).cell? ⟨b, k, none⟩ = some (if k < j + 1 then f k else g k) := by
 intro i hi
 by_cases e : i = j
 ·subst e
  rw [if_pos (Nat.lt_succ_self i), ← hv]
  exact World.cell?_setCell_same _ _ _ (h i hi)
 ·rw [World.cell?_setCell_other _ _ _ _ (fun h => by cases h; omega), h i hi]
  by_cases h1 : i < j
  ·rw [if_pos h1, if_pos (by omega)]
  ·rw [if_neg h1, if_neg (by omega)]
theorem setHd_at {W : World} {b : Nat} {z : Hd} (h : Hd) (hz : HdAt W b z) : HdAt (setHd W b h) b h := by
 have h0 : ∀ k, k < 9 → W.cell? ⟨b, k, none⟩ = some (if k < 0 then hcell h k else hcell z k) := fun k hk => by rw [if_neg (by omega)]; exact hz k hk
 have := hd_step 8 _ rfl (hd_step 7 _ rfl (hd_step 6 _ rfl (hd_step 5 _ rfl (hd_step 4 _ rfl (hd_step 3 _ rfl (hd_step 2 _ rfl (hd_step 1 _ rfl (hd_step (f := hcell h) 0 _ rfl h0))))))))
 intro k hk
 have e := this k hk
 rw [if_pos (by omega)] at e
 exact e
def zeroHd : Hd := ⟨0, 0, 0, 0, 0, 0, 0, 0, ⟨#[]⟩⟩
theorem nine {k : Nat} (h : k < 9) : k = 0 ∨ k = 1 ∨ k = 2 ∨ k = 3 ∨ k = 4 ∨ k = 5 ∨ k = 6 ∨ k = 7 ∨ k = 8 := by omega
/-- A header's variable that was just made. -/
structure NewHd (W : World) (b : Nat) (h : Hd) : Prop where
 at_ : HdAt W b h
 free : ∀ j, W.frozen? ⟨b, j, none⟩ = false
theorem newHd (w : World) (h : Hd) (t : TypeId) : NewHd (w.alloc (.cells #[.int .i64 h.tos, .int .i64 h.id, .int .i64 h.flags, .int .i64 h.frag, .int .i64 h.ttl, .int .i64 h.proto, .int .u32 h.src, .int .u32 h.dst, .string h.opts] t)) w.heap.size h := by
 refine ⟨fun k hk => ?_, fun j => by simp [go_sem]⟩
 rcases nine hk with rfl | rfl | rfl | rfl | rfl | rfl | rfl | rfl | rfl <;> simp [go_sem, hcell]
theorem NewHd.on {W W' : World} {b B : Nat} {h : Hd} (hh : NewHd W b h) (hb : Below B W W') (hB : b < B) : NewHd W' b h := ⟨hh.at_.on hb hB, fun j => (hb.frozen (p := ⟨b, j, none⟩) hB).trans (hh.free j)⟩
end Go.Proofs.YtpjaajeojiaeiaaGreatDoor.Ip

/- What (*fixed).header computes: the fields of a fixed part as a header. -/
namespace Go.Proofs.YtpjaajeojiaeiaaGreatDoor.Ip
open Go.ChangeShapes Go.WideShapes Go.ChangeAt Go.RowKit

/-- The header that a fixed part says, with these options. -/
def fhead (F : Nat → Int) (opts : ByteArray) : Hd := ⟨F 2, F 4, F 5, F 6, F 7, F 8, F 10, F 11, opts⟩
theorem NewHd.drew {W : World} {b : Nat} {h : Hd} (hh : NewHd W b h) : NewHd W.drew b h := ⟨hh.at_, hh.free⟩
theorem FixAt.drew {W : World} {b : Nat} {F : Nat → Int} (hh : FixAt W b F) : FixAt W.drew b F := hh
theorem hcell_of {V u : World} {b k B : Nat} {v : Value} (hb : Below B V.drew u) (h : b < B) (hc : V.cell? ⟨b, k, none⟩ = some v) : u.cell? ⟨b, k, none⟩ = some v := (hb.cell (p := ⟨b, k, none⟩) h).trans hc

set_option maxRecDepth 100000 in
set_option maxHeartbeats 4000000 in
theorem header_any (b : Nat) (F : Nat → Int) (opts : ByteArray) (w : World) (h : FixAt w b F) (hb : b < w.heap.size) (h10 : 0 ≤ F 10 ∧ F 10 ≤ 4294967295) (h11 : 0 ≤ F 11 ∧ F 11 ≤ 4294967295) :
  Calls Tryz.prog 68 #[.pointer (some ⟨b, 0, none⟩), .string opts] w fun e w' => e = .returned (fhead F opts).val ∧ Below w.heap.size w w' := by
 have hal : Below w.heap.size w (w.alloc (.cells #[.int .i64 0, .int .i64 0, .int .i64 0, .int .i64 0, .int .i64 0, .int .i64 0, .int .u32 0, .int .u32 0, .string ⟨#[]⟩] 76)) := (Below.refl _ _).alloc (Nat.le_refl _) _
 have hnew := newHd w zeroHd 76
 simp only [zeroHd] at hnew
 have h := h.on hal hb
 have c2 := h 2 (by decide)
 have c4 := h 4 (by decide)
 have c5 := h 5 (by decide)
 have c6 := h 6 (by decide)
 have c7 := h 7 (by decide)
 have c8 := h 8 (by decide)
 have c10 := h 10 (by decide)
 have c11 := h 11 (by decide)
 unfold fhead
 clear h
 generalize F 2 = x2 at *
 generalize F 4 = x4 at *
 generalize F 5 = x5 at *
 generalize F 6 = x6 at *
 generalize F 7 = x7 at *
 generalize F 8 = x8 at *
 generalize F 10 = x10 at *
 generalize F 11 = x11 at *
 obtain ⟨a0, a1⟩ := h10
 obtain ⟨b0, b1⟩ := h11
 have e10 : x10 % 4294967296 = x10 := by omega
 have e11 : x11 % 4294967296 = x11 := by omega
 go_enter Tryz.func68, Tryz.ntmps68
 go_wp2
 generalize hV : w.alloc (.cells #[.int .i64 0, .int .i64 0, .int .i64 0, .int .i64 0, .int .i64 0, .int .i64 0, .int .u32 0, .int .u32 0, .string ⟨#[]⟩] 76) = V at *
 have hVs : V.heap.size = w.heap.size + 1 := by rw [← hV]; simp
 have hb1 : b < V.heap.size := by omega
 refine wp_region_grow_store (by kernel_rfl) [.pointer (some ⟨b, 0, none⟩), .pointer (some ⟨b, 0, none⟩), .pointer (some ⟨b, 2, none⟩), .int .i64 x2, .pointer (some ⟨b, 0, none⟩), .pointer (some ⟨b, 0, none⟩), .pointer (some ⟨b, 4, none⟩), .int .i64 x4, .pointer (some ⟨b, 0, none⟩), .pointer (some ⟨b, 0, none⟩), .pointer (some ⟨b, 5, none⟩), .int .i64 x5, .pointer (some ⟨b, 0, none⟩), .pointer (some ⟨b, 0, none⟩), .pointer (some ⟨b, 6, none⟩), .int .i64 x6, .pointer (some ⟨b, 0, none⟩), .pointer (some ⟨b, 0, none⟩), .pointer (some ⟨b, 7, none⟩), .int .i64 x7, .pointer (some ⟨b, 0, none⟩), .pointer (some ⟨b, 0, none⟩), .pointer (some ⟨b, 8, none⟩), .int .i64 x8, .pointer (some ⟨b, 0, none⟩), .pointer (some ⟨b, 0, none⟩), .pointer (some ⟨b, 10, none⟩), .int .i64 x10, .int .u32 x10, .pointer (some ⟨b, 0, none⟩), .pointer (some ⟨b, 0, none⟩), .pointer (some ⟨b, 11, none⟩), .int .i64 x11, .int .u32 x11, .string opts, .agg #[.int .i64 x2, .int .i64 x4, .int .i64 x5, .int .i64 x6, .int .i64 x7, .int .i64 x8, .int .u32 x10, .int .u32 x11, .string opts], undef] 36 (fun v => setHd v w.heap.size ⟨x2, x4, x5, x6, x7, x8, x10, x11, opts⟩) (by kernel_rfl) (by decide) rfl ?op ?store ?fin
 case op =>
  intro i o bx u ho hne hbel hS
  match i, ho with
  | 0, ho =>
   obtain rfl := Option.some.inj ho
   have d0 : bx.tmps.getD 0 undef = .pointer (some ⟨b, 0, none⟩) := hS.base 0
   refine .inl ⟨rfl, ends_value (c := .pointer (some ⟨b, 0, none⟩)) ?_⟩
   simp [execOp, Act.eval, d0]
  | 1, ho =>
   obtain rfl := Option.some.inj ho
   have d5 : bx.tmps.getD 5 undef = .pointer (some ⟨b, 0, none⟩) := hS.dep 0 5
   refine .inl ⟨rfl, ends_value (c := .pointer (some ⟨b, 0, none⟩)) ?_⟩
   simp [execOp, Act.eval, d5]
  | 2, ho =>
   obtain rfl := Option.some.inj ho
   have d6 : bx.tmps.getD 6 undef = .pointer (some ⟨b, 0, none⟩) := hS.dep 1 6
   refine .inl ⟨rfl, ends_value (c := .pointer (some ⟨b, 2, none⟩)) ?_⟩
   simp [Act.eval, d6, go_sem]
  | 3, ho =>
   obtain rfl := Option.some.inj ho
   have d7 : bx.tmps.getD 7 undef = .pointer (some ⟨b, 2, none⟩) := hS.dep 2 7
   have hl := hcell_of (hbel (by kernel_rfl)) hb1 c2
   refine .inl ⟨rfl, ends_value (c := .int .i64 x2) ?_⟩
   simp [Act.eval, d7, go_sem, hl]
  | 4, ho =>
   obtain rfl := Option.some.inj ho
   have d0 : bx.tmps.getD 0 undef = .pointer (some ⟨b, 0, none⟩) := hS.base 0
   refine .inl ⟨rfl, ends_value (c := .pointer (some ⟨b, 0, none⟩)) ?_⟩
   simp [execOp, Act.eval, d0]
  | 5, ho =>
   obtain rfl := Option.some.inj ho
   have d9 : bx.tmps.getD 9 undef = .pointer (some ⟨b, 0, none⟩) := hS.dep 4 9
   refine .inl ⟨rfl, ends_value (c := .pointer (some ⟨b, 0, none⟩)) ?_⟩
   simp [execOp, Act.eval, d9]
  | 6, ho =>
   obtain rfl := Option.some.inj ho
   have d10 : bx.tmps.getD 10 undef = .pointer (some ⟨b, 0, none⟩) := hS.dep 5 10
   refine .inl ⟨rfl, ends_value (c := .pointer (some ⟨b, 4, none⟩)) ?_⟩
   simp [Act.eval, d10, go_sem]
  | 7, ho =>
   obtain rfl := Option.some.inj ho
   have d11 : bx.tmps.getD 11 undef = .pointer (some ⟨b, 4, none⟩) := hS.dep 6 11
   have hl := hcell_of (hbel (by kernel_rfl)) hb1 c4
   refine .inl ⟨rfl, ends_value (c := .int .i64 x4) ?_⟩
   simp [Act.eval, d11, go_sem, hl]
  | 8, ho =>
   obtain rfl := Option.some.inj ho
   have d0 : bx.tmps.getD 0 undef = .pointer (some ⟨b, 0, none⟩) := hS.base 0
   refine .inl ⟨rfl, ends_value (c := .pointer (some ⟨b, 0, none⟩)) ?_⟩
   simp [execOp, Act.eval, d0]
  | 9, ho =>
   obtain rfl := Option.some.inj ho
   have d13 : bx.tmps.getD 13 undef = .pointer (some ⟨b, 0, none⟩) := hS.dep 8 13
   refine .inl ⟨rfl, ends_value (c := .pointer (some ⟨b, 0, none⟩)) ?_⟩
   simp [execOp, Act.eval, d13]
  | 10, ho =>
   obtain rfl := Option.some.inj ho
   have d14 : bx.tmps.getD 14 undef = .pointer (some ⟨b, 0, none⟩) := hS.dep 9 14
   refine .inl ⟨rfl, ends_value (c := .pointer (some ⟨b, 5, none⟩)) ?_⟩
   simp [Act.eval, d14, go_sem]
  | 11, ho =>
   obtain rfl := Option.some.inj ho
   have d15 : bx.tmps.getD 15 undef = .pointer (some ⟨b, 5, none⟩) := hS.dep 10 15
   have hl := hcell_of (hbel (by kernel_rfl)) hb1 c5
   refine .inl ⟨rfl, ends_value (c := .int .i64 x5) ?_⟩
   simp [Act.eval, d15, go_sem, hl]
  | 12, ho =>
   obtain rfl := Option.some.inj ho
   have d0 : bx.tmps.getD 0 undef = .pointer (some ⟨b, 0, none⟩) := hS.base 0
   refine .inl ⟨rfl, ends_value (c := .pointer (some ⟨b, 0, none⟩)) ?_⟩
   simp [execOp, Act.eval, d0]
  | 13, ho =>
   obtain rfl := Option.some.inj ho
   have d17 : bx.tmps.getD 17 undef = .pointer (some ⟨b, 0, none⟩) := hS.dep 12 17
   refine .inl ⟨rfl, ends_value (c := .pointer (some ⟨b, 0, none⟩)) ?_⟩
   simp [execOp, Act.eval, d17]
  | 14, ho =>
   obtain rfl := Option.some.inj ho
   have d18 : bx.tmps.getD 18 undef = .pointer (some ⟨b, 0, none⟩) := hS.dep 13 18
   refine .inl ⟨rfl, ends_value (c := .pointer (some ⟨b, 6, none⟩)) ?_⟩
   simp [Act.eval, d18, go_sem]
  | 15, ho =>
   obtain rfl := Option.some.inj ho
   have d19 : bx.tmps.getD 19 undef = .pointer (some ⟨b, 6, none⟩) := hS.dep 14 19
   have hl := hcell_of (hbel (by kernel_rfl)) hb1 c6
   refine .inl ⟨rfl, ends_value (c := .int .i64 x6) ?_⟩
   simp [Act.eval, d19, go_sem, hl]
  | 16, ho =>
   obtain rfl := Option.some.inj ho
   have d0 : bx.tmps.getD 0 undef = .pointer (some ⟨b, 0, none⟩) := hS.base 0
   refine .inl ⟨rfl, ends_value (c := .pointer (some ⟨b, 0, none⟩)) ?_⟩
   simp [execOp, Act.eval, d0]
  | 17, ho =>
   obtain rfl := Option.some.inj ho
   have d21 : bx.tmps.getD 21 undef = .pointer (some ⟨b, 0, none⟩) := hS.dep 16 21
   refine .inl ⟨rfl, ends_value (c := .pointer (some ⟨b, 0, none⟩)) ?_⟩
   simp [execOp, Act.eval, d21]
  | 18, ho =>
   obtain rfl := Option.some.inj ho
   have d22 : bx.tmps.getD 22 undef = .pointer (some ⟨b, 0, none⟩) := hS.dep 17 22
   refine .inl ⟨rfl, ends_value (c := .pointer (some ⟨b, 7, none⟩)) ?_⟩
   simp [Act.eval, d22, go_sem]
  | 19, ho =>
   obtain rfl := Option.some.inj ho
   have d23 : bx.tmps.getD 23 undef = .pointer (some ⟨b, 7, none⟩) := hS.dep 18 23
   have hl := hcell_of (hbel (by kernel_rfl)) hb1 c7
   refine .inl ⟨rfl, ends_value (c := .int .i64 x7) ?_⟩
   simp [Act.eval, d23, go_sem, hl]
  | 20, ho =>
   obtain rfl := Option.some.inj ho
   have d0 : bx.tmps.getD 0 undef = .pointer (some ⟨b, 0, none⟩) := hS.base 0
   refine .inl ⟨rfl, ends_value (c := .pointer (some ⟨b, 0, none⟩)) ?_⟩
   simp [execOp, Act.eval, d0]
  | 21, ho =>
   obtain rfl := Option.some.inj ho
   have d25 : bx.tmps.getD 25 undef = .pointer (some ⟨b, 0, none⟩) := hS.dep 20 25
   refine .inl ⟨rfl, ends_value (c := .pointer (some ⟨b, 0, none⟩)) ?_⟩
   simp [execOp, Act.eval, d25]
  | 22, ho =>
   obtain rfl := Option.some.inj ho
   have d26 : bx.tmps.getD 26 undef = .pointer (some ⟨b, 0, none⟩) := hS.dep 21 26
   refine .inl ⟨rfl, ends_value (c := .pointer (some ⟨b, 8, none⟩)) ?_⟩
   simp [Act.eval, d26, go_sem]
  | 23, ho =>
   obtain rfl := Option.some.inj ho
   have d27 : bx.tmps.getD 27 undef = .pointer (some ⟨b, 8, none⟩) := hS.dep 22 27
   have hl := hcell_of (hbel (by kernel_rfl)) hb1 c8
   refine .inl ⟨rfl, ends_value (c := .int .i64 x8) ?_⟩
   simp [Act.eval, d27, go_sem, hl]
  | 24, ho =>
   obtain rfl := Option.some.inj ho
   have d0 : bx.tmps.getD 0 undef = .pointer (some ⟨b, 0, none⟩) := hS.base 0
   refine .inl ⟨rfl, ends_value (c := .pointer (some ⟨b, 0, none⟩)) ?_⟩
   simp [execOp, Act.eval, d0]
  | 25, ho =>
   obtain rfl := Option.some.inj ho
   have d29 : bx.tmps.getD 29 undef = .pointer (some ⟨b, 0, none⟩) := hS.dep 24 29
   refine .inl ⟨rfl, ends_value (c := .pointer (some ⟨b, 0, none⟩)) ?_⟩
   simp [execOp, Act.eval, d29]
  | 26, ho =>
   obtain rfl := Option.some.inj ho
   have d30 : bx.tmps.getD 30 undef = .pointer (some ⟨b, 0, none⟩) := hS.dep 25 30
   refine .inl ⟨rfl, ends_value (c := .pointer (some ⟨b, 10, none⟩)) ?_⟩
   simp [Act.eval, d30, go_sem]
  | 27, ho =>
   obtain rfl := Option.some.inj ho
   have d31 : bx.tmps.getD 31 undef = .pointer (some ⟨b, 10, none⟩) := hS.dep 26 31
   have hl := hcell_of (hbel (by kernel_rfl)) hb1 c10
   refine .inl ⟨rfl, ends_value (c := .int .i64 x10) ?_⟩
   simp [Act.eval, d31, go_sem, hl]
  | 28, ho =>
   obtain rfl := Option.some.inj ho
   have d32 : bx.tmps.getD 32 undef = .int .i64 x10 := hS.dep 27 32
   refine .inl ⟨rfl, ends_value (c := .int .u32 x10) ?_⟩
   simp [Act.eval, d32, go_sem, e10, IntKind.wrap_u32]
  | 29, ho =>
   obtain rfl := Option.some.inj ho
   have d0 : bx.tmps.getD 0 undef = .pointer (some ⟨b, 0, none⟩) := hS.base 0
   refine .inl ⟨rfl, ends_value (c := .pointer (some ⟨b, 0, none⟩)) ?_⟩
   simp [execOp, Act.eval, d0]
  | 30, ho =>
   obtain rfl := Option.some.inj ho
   have d34 : bx.tmps.getD 34 undef = .pointer (some ⟨b, 0, none⟩) := hS.dep 29 34
   refine .inl ⟨rfl, ends_value (c := .pointer (some ⟨b, 0, none⟩)) ?_⟩
   simp [execOp, Act.eval, d34]
  | 31, ho =>
   obtain rfl := Option.some.inj ho
   have d35 : bx.tmps.getD 35 undef = .pointer (some ⟨b, 0, none⟩) := hS.dep 30 35
   refine .inl ⟨rfl, ends_value (c := .pointer (some ⟨b, 11, none⟩)) ?_⟩
   simp [Act.eval, d35, go_sem]
  | 32, ho =>
   obtain rfl := Option.some.inj ho
   have d36 : bx.tmps.getD 36 undef = .pointer (some ⟨b, 11, none⟩) := hS.dep 31 36
   have hl := hcell_of (hbel (by kernel_rfl)) hb1 c11
   refine .inl ⟨rfl, ends_value (c := .int .i64 x11) ?_⟩
   simp [Act.eval, d36, go_sem, hl]
  | 33, ho =>
   obtain rfl := Option.some.inj ho
   have d37 : bx.tmps.getD 37 undef = .int .i64 x11 := hS.dep 32 37
   refine .inl ⟨rfl, ends_value (c := .int .u32 x11) ?_⟩
   simp [Act.eval, d37, go_sem, e11, IntKind.wrap_u32]
  | 34, ho =>
   obtain rfl := Option.some.inj ho
   have d1 : bx.tmps.getD 1 undef = .string opts := hS.base 1
   refine .inl ⟨rfl, ends_value (c := .string opts) ?_⟩
   simp [execOp, Act.eval, d1]
  | 35, ho =>
   obtain rfl := Option.some.inj ho
   have d8 : bx.tmps.getD 8 undef = .int .i64 x2 := hS.dep 3 8
   have q8 : bx.tmps[8]?.getD undef = .int .i64 x2 := by rw [← Array.getD_eq_getD_getElem?]; exact d8
   have d12 : bx.tmps.getD 12 undef = .int .i64 x4 := hS.dep 7 12
   have q12 : bx.tmps[12]?.getD undef = .int .i64 x4 := by rw [← Array.getD_eq_getD_getElem?]; exact d12
   have d16 : bx.tmps.getD 16 undef = .int .i64 x5 := hS.dep 11 16
   have q16 : bx.tmps[16]?.getD undef = .int .i64 x5 := by rw [← Array.getD_eq_getD_getElem?]; exact d16
   have d20 : bx.tmps.getD 20 undef = .int .i64 x6 := hS.dep 15 20
   have q20 : bx.tmps[20]?.getD undef = .int .i64 x6 := by rw [← Array.getD_eq_getD_getElem?]; exact d20
   have d24 : bx.tmps.getD 24 undef = .int .i64 x7 := hS.dep 19 24
   have q24 : bx.tmps[24]?.getD undef = .int .i64 x7 := by rw [← Array.getD_eq_getD_getElem?]; exact d24
   have d28 : bx.tmps.getD 28 undef = .int .i64 x8 := hS.dep 23 28
   have q28 : bx.tmps[28]?.getD undef = .int .i64 x8 := by rw [← Array.getD_eq_getD_getElem?]; exact d28
   have d33 : bx.tmps.getD 33 undef = .int .u32 x10 := hS.dep 28 33
   have q33 : bx.tmps[33]?.getD undef = .int .u32 x10 := by rw [← Array.getD_eq_getD_getElem?]; exact d33
   have d38 : bx.tmps.getD 38 undef = .int .u32 x11 := hS.dep 33 38
   have q38 : bx.tmps[38]?.getD undef = .int .u32 x11 := by rw [← Array.getD_eq_getD_getElem?]; exact d38
   have d39 : bx.tmps.getD 39 undef = .string opts := hS.dep 34 39
   have q39 : bx.tmps[39]?.getD undef = .string opts := by rw [← Array.getD_eq_getD_getElem?]; exact d39
   refine .inl ⟨rfl, ends_value (c := .agg #[.int .i64 x2, .int .i64 x4, .int .i64 x5, .int .i64 x6, .int .i64 x7, .int .i64 x8, .int .u32 x10, .int .u32 x11, .string opts]) ?_⟩
   simp [Act.eval, q8, q12, q16, q20, q24, q28, q33, q38, q39, go_sem]
  | 36, _ => exact absurd rfl hne
  | n + 37, ho => exact absurd ho (by simp)
 case store =>
  intro o bx u ho hbel hS
  obtain rfl := Option.some.inj ho
  have d4 : bx.tmps.getD 4 undef = .pointer (some ⟨w.heap.size, 0, none⟩) := hS.base 4
  have d40 : bx.tmps.getD 40 undef = .agg #[.int .i64 x2, .int .i64 x4, .int .i64 x5, .int .i64 x6, .int .i64 x7, .int .i64 x8, .int .u32 x10, .int .u32 x11, .string opts] := hS.dep 35 40
  have hn := hnew.drew.on hbel (by omega)
  have r0 := hn.at_ 0 (by decide)
  have r1 := hn.at_ 1 (by decide)
  have r2 := hn.at_ 2 (by decide)
  have r3 := hn.at_ 3 (by decide)
  have r4 := hn.at_ 4 (by decide)
  have r5 := hn.at_ 5 (by decide)
  have r6 := hn.at_ 6 (by decide)
  have r7 := hn.at_ 7 (by decide)
  have r8 := hn.at_ 8 (by decide)
  simp only [hcell] at r0 r1 r2 r3 r4 r5 r6 r7 r8
  have rf := hn.free
  unfold setHd
  refine ⟨rfl, ?_⟩
  simp [Act.eval, d4, d40, go_sem, r0, r1, r2, r3, r4, r5, r6, r7, r8, rf]
 case fin =>
  intro u hbel
  simp [putAll, dstAt, Act.put]
  have hn := hnew.drew.on hbel (by omega)
  have hz := setHd_at ⟨x2, x4, x5, x6, x7, x8, x10, x11, opts⟩ hn.at_
  have hbz := setHd_below (hal.drew.trans (hbel.mono (by omega))) w.heap.size ⟨x2, x4, x5, x6, x7, x8, x10, x11, opts⟩ (Nat.le_refl _)
  generalize setHd u w.heap.size ⟨x2, x4, x5, x6, x7, x8, x10, x11, opts⟩ = z at *
  go_wp2_with fail
  have g0 := hz 0 (by decide)
  have g1 := hz 1 (by decide)
  have g2 := hz 2 (by decide)
  have g3 := hz 3 (by decide)
  have g4 := hz 4 (by decide)
  have g5 := hz 5 (by decide)
  have g6 := hz 6 (by decide)
  have g7 := hz 7 (by decide)
  have g8 := hz 8 (by decide)
  simp only [hcell] at g0 g1 g2 g3 g4 g5 g6 g7 g8
  refine bodyPost_ret (v := .agg #[.int .i64 x2, .int .i64 x4, .int .i64 x5, .int .i64 x6, .int .i64 x7, .int .i64 x8, .int .u32 x10, .int .u32 x11, .string opts]) ?_ rfl ⟨rfl, hbz⟩
  simp [results, Tryz.results68, go_sem, g0, g1, g2, g3, g4, g5, g6, g7, g8]
end Go.Proofs.YtpjaajeojiaeiaaGreatDoor.Ip

/- What Right computes: each field has room, and the options are right. -/
namespace Go.Proofs.YtpjaajeojiaeiaaGreatDoor.Ip
open Go.ChangeShapes Go.WideShapes Go.ChangeAt Go.RowKit Go.Shelf
attribute [local go_sem] Oper.semAt_some

def inB (n m : Int) : Bool := decide (0 ≤ n) && decide (n ≤ m)
def optB (o : ByteArray) : Bool := decide (o.size ≤ 40) && decide (o.size % 4 = 0) && optsOk o.data.toList
def rightB (h : Hd) : Bool := inB h.tos 255 && inB h.ttl 255 && inB h.proto 255 && inB h.id 65535 && inB h.flags 7 && inB h.frag 8191 && optB h.opts
theorem inB_iff (n m : Int) : inB n m = true ↔ 0 ≤ n ∧ n ≤ m := by unfold inB; simp
/-- What lies behind k fields that have room. -/
structure RightI (w : World) (bf : Nat) (F : Nat → Int) (k : Nat) (W : World) : Prop where
 rc : W.cell? ⟨w.heap.size + 1, 0, none⟩ = some (.bool false)
 rf : W.frozen? ⟨w.heap.size + 1, 0, none⟩ = false
 fix : FixAt W bf F
 below : Below w.heap.size w W
 fits : ∀ j, j < k → 0 ≤ F j ∧ F j < 2 ^ (fbits j).toNat
theorem RightI.on {w : World} {bf : Nat} {F : Nat → Int} {k B : Nat} {W W' : World} (h : RightI w bf F k W) (hb : Below B W W') (hB : w.heap.size + 2 ≤ B) (hbf : bf < B) : RightI w bf F k W' :=
 ⟨(hb.cell (p := ⟨w.heap.size + 1, 0, none⟩) (by simp; omega)).trans h.rc, (hb.frozen (p := ⟨w.heap.size + 1, 0, none⟩) (by simp; omega)).trans h.rf, h.fix.on hb hbf, h.below.trans (hb.mono (by omega)), h.fits⟩
/-- What lies where one had none. -/
structure RightX (w : World) (F : Nat → Int) (W : World) : Prop where
 rc : W.cell? ⟨w.heap.size + 1, 0, none⟩ = some (.bool false)
 below : Below w.heap.size w W
 bad : ¬ Fits12 F
theorem RightX.on {w : World} {F : Nat → Int} {B : Nat} {W W' : World} (h : RightX w F W) (hb : Below B W W') (hB : w.heap.size + 2 ≤ B) : RightX w F W' :=
 ⟨(hb.cell (p := ⟨w.heap.size + 1, 0, none⟩) (by simp; omega)).trans h.rc, h.below.trans (hb.mono (by omega)), h.bad⟩

theorem fixAt_new (w : World) (F : Nat → Int) (t : TypeId) : FixAt (w.alloc (.cells #[.int .i64 (F 0), .int .i64 (F 1), .int .i64 (F 2), .int .i64 (F 3), .int .i64 (F 4), .int .i64 (F 5), .int .i64 (F 6), .int .i64 (F 7), .int .i64 (F 8), .int .i64 (F 9), .int .i64 (F 10), .int .i64 (F 11)] t)) w.heap.size F := by
 intro k hk
 have hks : k = 0 ∨ k = 1 ∨ k = 2 ∨ k = 3 ∨ k = 4 ∨ k = 5 ∨ k = 6 ∨ k = 7 ∨ k = 8 ∨ k = 9 ∨ k = 10 ∨ k = 11 := by omega
 rcases hks with rfl | rfl | rfl | rfl | rfl | rfl | rfl | rfl | rfl | rfl | rfl | rfl <;> simp [go_sem]

end Go.Proofs.YtpjaajeojiaeiaaGreatDoor.Ip

/- What the reference's Right computes: the same as Right. -/
namespace Go.Proofs.YtpjaajeojiaeiaaGreatDoor.Ip
open Go.ChangeShapes Go.WideShapes Go.ChangeAt Go.RowKit

theorem rin_any (n m : Int) (w : World) : Calls Tryz.prog 76 #[.int .i64 n, .int .i64 m] w fun e w' => e = .returned (.bool (inB n m)) ∧ w' = w := in_any n m w

set_option maxRecDepth 100000 in
set_option maxHeartbeats 4000000 in
theorem rright_any (h : Hd) (w : World) (hw : h.Wf) :
  Calls Tryz.prog 44 #[h.val] w fun e w' => e = .returned (.bool (rightB h)) ∧ Below w.heap.size w w' := by
 have hos := hw.opts
 have hsz9 : (h.opts.size : Int) ≤ 140737488355328 := by omega
 clear hw
 cases t0 : inB h.tos 255 with
 | false =>
  have HR : Hid (rightB h = false) := by show _ = _; unfold rightB; rw [t0]; simp
  go_enter Tryz.func44, Tryz.ntmps44
  go_wp2_with fail
  refine (roptsRight_any _ _ hos).mono ?_
  rintro e w1 ⟨rfl, rfl⟩
  go_wp2_with fail
  refine (rin_any _ _ _).mono ?_
  rintro e w1 ⟨rfl, rfl⟩
  rw [t0]
  go_wp2_with fail
  go_ret
  refine ⟨ret_bool HR.out.symm, ?_⟩
  (repeat first | exact Below.refl _ _ | refine Below.drew ?_ | refine Below.alloc ?_ (by simp <;> omega) _ | refine Below.setCell ?_ (by simp <;> omega) _)
 | true =>
  cases t1 : inB h.ttl 255 with
  | false =>
   have HR : Hid (rightB h = false) := by show _ = _; unfold rightB; rw [t0]; rw [t1]; simp
   go_enter Tryz.func44, Tryz.ntmps44
   go_wp2_with fail
   refine (roptsRight_any _ _ hos).mono ?_
   rintro e w1 ⟨rfl, rfl⟩
   go_wp2_with fail
   refine (rin_any _ _ _).mono ?_
   rintro e w1 ⟨rfl, rfl⟩
   rw [t0]
   go_wp2_with fail
   refine (rin_any _ _ _).mono ?_
   rintro e w1 ⟨rfl, rfl⟩
   rw [t1]
   go_wp2_with fail
   go_ret
   refine ⟨ret_bool HR.out.symm, ?_⟩
   (repeat first | exact Below.refl _ _ | refine Below.drew ?_ | refine Below.alloc ?_ (by simp <;> omega) _ | refine Below.setCell ?_ (by simp <;> omega) _)
  | true =>
   cases t2 : inB h.proto 255 with
   | false =>
    have HR : Hid (rightB h = false) := by show _ = _; unfold rightB; rw [t0]; rw [t1]; rw [t2]; simp
    go_enter Tryz.func44, Tryz.ntmps44
    go_wp2_with fail
    refine (roptsRight_any _ _ hos).mono ?_
    rintro e w1 ⟨rfl, rfl⟩
    go_wp2_with fail
    refine (rin_any _ _ _).mono ?_
    rintro e w1 ⟨rfl, rfl⟩
    rw [t0]
    go_wp2_with fail
    refine (rin_any _ _ _).mono ?_
    rintro e w1 ⟨rfl, rfl⟩
    rw [t1]
    go_wp2_with fail
    refine (rin_any _ _ _).mono ?_
    rintro e w1 ⟨rfl, rfl⟩
    rw [t2]
    go_wp2_with fail
    go_ret
    refine ⟨ret_bool HR.out.symm, ?_⟩
    (repeat first | exact Below.refl _ _ | refine Below.drew ?_ | refine Below.alloc ?_ (by simp <;> omega) _ | refine Below.setCell ?_ (by simp <;> omega) _)
   | true =>
    cases t3 : inB h.id 65535 with
    | false =>
     have HR : Hid (rightB h = false) := by show _ = _; unfold rightB; rw [t0]; rw [t1]; rw [t2]; rw [t3]; simp
     go_enter Tryz.func44, Tryz.ntmps44
     go_wp2_with fail
     refine (roptsRight_any _ _ hos).mono ?_
     rintro e w1 ⟨rfl, rfl⟩
     go_wp2_with fail
     refine (rin_any _ _ _).mono ?_
     rintro e w1 ⟨rfl, rfl⟩
     rw [t0]
     go_wp2_with fail
     refine (rin_any _ _ _).mono ?_
     rintro e w1 ⟨rfl, rfl⟩
     rw [t1]
     go_wp2_with fail
     refine (rin_any _ _ _).mono ?_
     rintro e w1 ⟨rfl, rfl⟩
     rw [t2]
     go_wp2_with fail
     refine (rin_any _ _ _).mono ?_
     rintro e w1 ⟨rfl, rfl⟩
     rw [t3]
     go_wp2_with fail
     go_ret
     refine ⟨ret_bool HR.out.symm, ?_⟩
     (repeat first | exact Below.refl _ _ | refine Below.drew ?_ | refine Below.alloc ?_ (by simp <;> omega) _ | refine Below.setCell ?_ (by simp <;> omega) _)
    | true =>
     cases t4 : inB h.flags 7 with
     | false =>
      have HR : Hid (rightB h = false) := by show _ = _; unfold rightB; rw [t0]; rw [t1]; rw [t2]; rw [t3]; rw [t4]; simp
      go_enter Tryz.func44, Tryz.ntmps44
      go_wp2_with fail
      refine (roptsRight_any _ _ hos).mono ?_
      rintro e w1 ⟨rfl, rfl⟩
      go_wp2_with fail
      refine (rin_any _ _ _).mono ?_
      rintro e w1 ⟨rfl, rfl⟩
      rw [t0]
      go_wp2_with fail
      refine (rin_any _ _ _).mono ?_
      rintro e w1 ⟨rfl, rfl⟩
      rw [t1]
      go_wp2_with fail
      refine (rin_any _ _ _).mono ?_
      rintro e w1 ⟨rfl, rfl⟩
      rw [t2]
      go_wp2_with fail
      refine (rin_any _ _ _).mono ?_
      rintro e w1 ⟨rfl, rfl⟩
      rw [t3]
      go_wp2_with fail
      refine (rin_any _ _ _).mono ?_
      rintro e w1 ⟨rfl, rfl⟩
      rw [t4]
      go_wp2_with fail
      go_ret
      refine ⟨ret_bool HR.out.symm, ?_⟩
      (repeat first | exact Below.refl _ _ | refine Below.drew ?_ | refine Below.alloc ?_ (by simp <;> omega) _ | refine Below.setCell ?_ (by simp <;> omega) _)
     | true =>
      cases t5 : inB h.frag 8191 with
      | false =>
       have HR : Hid (rightB h = false) := by show _ = _; unfold rightB; rw [t0]; rw [t1]; rw [t2]; rw [t3]; rw [t4]; rw [t5]; simp
       go_enter Tryz.func44, Tryz.ntmps44
       go_wp2_with fail
       refine (roptsRight_any _ _ hos).mono ?_
       rintro e w1 ⟨rfl, rfl⟩
       go_wp2_with fail
       refine (rin_any _ _ _).mono ?_
       rintro e w1 ⟨rfl, rfl⟩
       rw [t0]
       go_wp2_with fail
       refine (rin_any _ _ _).mono ?_
       rintro e w1 ⟨rfl, rfl⟩
       rw [t1]
       go_wp2_with fail
       refine (rin_any _ _ _).mono ?_
       rintro e w1 ⟨rfl, rfl⟩
       rw [t2]
       go_wp2_with fail
       refine (rin_any _ _ _).mono ?_
       rintro e w1 ⟨rfl, rfl⟩
       rw [t3]
       go_wp2_with fail
       refine (rin_any _ _ _).mono ?_
       rintro e w1 ⟨rfl, rfl⟩
       rw [t4]
       go_wp2_with fail
       refine (rin_any _ _ _).mono ?_
       rintro e w1 ⟨rfl, rfl⟩
       rw [t5]
       go_wp2_with fail
       go_ret
       refine ⟨ret_bool HR.out.symm, ?_⟩
       (repeat first | exact Below.refl _ _ | refine Below.drew ?_ | refine Below.alloc ?_ (by simp <;> omega) _ | refine Below.setCell ?_ (by simp <;> omega) _)
      | true =>
       by_cases h40 : h.opts.size ≤ 40
       case neg =>
        have HR : Hid (rightB h = false) := by show _ = _; unfold rightB optB; rw [t0]; rw [t1]; rw [t2]; rw [t3]; rw [t4]; rw [t5]; rw [decide_eq_false h40]; simp
        have hd : decide ((h.opts.size : Int) ≤ 40) = false := by simp; omega
        go_enter Tryz.func44, Tryz.ntmps44
        go_wp2_with fail
        refine (roptsRight_any _ _ hos).mono ?_
        rintro e w1 ⟨rfl, rfl⟩
        go_wp2_with fail
        refine (rin_any _ _ _).mono ?_
        rintro e w1 ⟨rfl, rfl⟩
        rw [t0]
        go_wp2_with fail
        refine (rin_any _ _ _).mono ?_
        rintro e w1 ⟨rfl, rfl⟩
        rw [t1]
        go_wp2_with fail
        refine (rin_any _ _ _).mono ?_
        rintro e w1 ⟨rfl, rfl⟩
        rw [t2]
        go_wp2_with fail
        refine (rin_any _ _ _).mono ?_
        rintro e w1 ⟨rfl, rfl⟩
        rw [t3]
        go_wp2_with fail
        refine (rin_any _ _ _).mono ?_
        rintro e w1 ⟨rfl, rfl⟩
        rw [t4]
        go_wp2_with fail
        refine (rin_any _ _ _).mono ?_
        rintro e w1 ⟨rfl, rfl⟩
        rw [t5]
        go_wp2_with fail
        go_ret
        refine ⟨ret_bool HR.out.symm, ?_⟩
        (repeat first | exact Below.refl _ _ | refine Below.drew ?_ | refine Below.alloc ?_ (by simp <;> omega) _ | refine Below.setCell ?_ (by simp <;> omega) _)
       case pos =>
        have hd : decide ((h.opts.size : Int) ≤ 40) = true := by simp; omega
        by_cases h4 : h.opts.size % 4 = 0
        case neg =>
         have HR : Hid (rightB h = false) := by show _ = _; unfold rightB optB; rw [t0]; rw [t1]; rw [t2]; rw [t3]; rw [t4]; rw [t5]; rw [decide_eq_false h4]; simp
         have hd4 : ((h.opts.size : Int) % 4 == 0) = false := by simp; omega
         go_enter Tryz.func44, Tryz.ntmps44
         go_wp2_with fail
         refine (roptsRight_any _ _ hos).mono ?_
         rintro e w1 ⟨rfl, rfl⟩
         go_wp2_with fail
         refine (rin_any _ _ _).mono ?_
         rintro e w1 ⟨rfl, rfl⟩
         rw [t0]
         go_wp2_with fail
         refine (rin_any _ _ _).mono ?_
         rintro e w1 ⟨rfl, rfl⟩
         rw [t1]
         go_wp2_with fail
         refine (rin_any _ _ _).mono ?_
         rintro e w1 ⟨rfl, rfl⟩
         rw [t2]
         go_wp2_with fail
         refine (rin_any _ _ _).mono ?_
         rintro e w1 ⟨rfl, rfl⟩
         rw [t3]
         go_wp2_with fail
         refine (rin_any _ _ _).mono ?_
         rintro e w1 ⟨rfl, rfl⟩
         rw [t4]
         go_wp2_with fail
         refine (rin_any _ _ _).mono ?_
         rintro e w1 ⟨rfl, rfl⟩
         rw [t5]
         go_wp2_with fail
         go_ret
         refine ⟨ret_bool HR.out.symm, ?_⟩
         (repeat first | exact Below.refl _ _ | refine Below.drew ?_ | refine Below.alloc ?_ (by simp <;> omega) _ | refine Below.setCell ?_ (by simp <;> omega) _)
        case pos =>
         have HR : Hid (rightB h = optsOk h.opts.data.toList) := by show _ = _; unfold rightB optB; rw [t0]; rw [t1]; rw [t2]; rw [t3]; rw [t4]; rw [t5]; rw [decide_eq_true h40, decide_eq_true h4]; simp
         have hd4 : ((h.opts.size : Int) % 4 == 0) = true := by simp; omega
         go_enter Tryz.func44, Tryz.ntmps44
         go_wp2_with fail
         refine (roptsRight_any _ _ hos).mono ?_
         rintro e w1 ⟨rfl, rfl⟩
         go_wp2_with fail
         refine (rin_any _ _ _).mono ?_
         rintro e w1 ⟨rfl, rfl⟩
         rw [t0]
         go_wp2_with fail
         refine (rin_any _ _ _).mono ?_
         rintro e w1 ⟨rfl, rfl⟩
         rw [t1]
         go_wp2_with fail
         refine (rin_any _ _ _).mono ?_
         rintro e w1 ⟨rfl, rfl⟩
         rw [t2]
         go_wp2_with fail
         refine (rin_any _ _ _).mono ?_
         rintro e w1 ⟨rfl, rfl⟩
         rw [t3]
         go_wp2_with fail
         refine (rin_any _ _ _).mono ?_
         rintro e w1 ⟨rfl, rfl⟩
         rw [t4]
         go_wp2_with fail
         refine (rin_any _ _ _).mono ?_
         rintro e w1 ⟨rfl, rfl⟩
         rw [t5]
         go_wp2_with fail
         go_ret
         refine ⟨ret_bool HR.out.symm, ?_⟩
         (repeat first | exact Below.refl _ _ | refine Below.drew ?_ | refine Below.alloc ?_ (by simp <;> omega) _ | refine Below.setCell ?_ (by simp <;> omega) _)
end Go.Proofs.YtpjaajeojiaeiaaGreatDoor.Ip
