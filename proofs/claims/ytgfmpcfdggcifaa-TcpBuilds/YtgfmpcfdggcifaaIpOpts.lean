/- What optSize and OptsRight compute, and what the reference's OptsRight computes: the same plain function of the bytes. -/
import Derived.Test.YtgfmpcfdggcifaaAny
import Derived.Test.YtgfmpcfdggcifaaTcBase
namespace Go.Proofs.Ytgfmpcfdggcifaa
open Go.ChangeShapes Go.WideShapes Go.ChangeAt Go.RowKit

/-- Options one behind the other. -/
def optsOk (l : List UInt8) : Bool :=
  match l with
  | [] => true
  | [k] => k == 0 || k == 1
  | k :: n :: r => if k = 0 then true else if k = 1 then optsOk (n :: r) else decide (2 ≤ n.toNat) && decide (n.toNat ≤ r.length + 2) && optsOk (r.drop (n.toNat - 2))
  termination_by l.length
  decreasing_by all_goals simp; try omega

theorem opts_nil : optsOk [] = true := by unfold optsOk; rfl
theorem drop_head (l : List UInt8) (i : Nat) (h : i < l.length) : l.drop i = l.getD i 0 :: l.drop (i + 1) := by
  rw [List.drop_eq_getElem_cons h, List.getD_eq_getElem?_getD, List.getElem?_eq_getElem h]; rfl
theorem opts_end (l : List UInt8) (i : Nat) (h : l.length ≤ i) : optsOk (l.drop i) = true := by rw [List.drop_of_length_le h]; exact opts_nil
theorem opts_zero (l : List UInt8) (i : Nat) (h : i < l.length) (hk : l.getD i 0 = 0) : optsOk (l.drop i) = true := by
  rw [drop_head l i h, hk]
  cases l.drop (i + 1) with
  | nil => unfold optsOk; rfl
  | cons n r => unfold optsOk; rfl
theorem opts_one (l : List UInt8) (i : Nat) (h : i < l.length) (hk : l.getD i 0 = 1) : optsOk (l.drop i) = optsOk (l.drop (i + 1)) := by
  rw [drop_head l i h, hk]
  cases l.drop (i + 1) with
  | nil => rw [opts_nil]; unfold optsOk; rfl
  | cons n r => rw [optsOk]; rfl
theorem opts_last (l : List UInt8) (i : Nat) (h : i + 1 = l.length) (h0 : l.getD i 0 ≠ 0) (h1 : l.getD i 0 ≠ 1) : optsOk (l.drop i) = false := by
  rw [drop_head l i (by omega), List.drop_of_length_le (by omega)]
  unfold optsOk
  rw [beq_eq_false_iff_ne.2 h0, beq_eq_false_iff_ne.2 h1]; rfl
theorem opts_long (l : List UInt8) (i n : Nat) (h : i + 1 < l.length) (h0 : l.getD i 0 ≠ 0) (h1 : l.getD i 0 ≠ 1) (hn : (l.getD (i + 1) 0).toNat = n) :
    optsOk (l.drop i) = (decide (2 ≤ n) && decide (i + n ≤ l.length) && optsOk (l.drop (i + n))) := by
  rw [drop_head l i (by omega), drop_head l (i + 1) h]
  rw [optsOk, if_neg h0, if_neg h1, hn]
  by_cases h2 : 2 ≤ n
  · rw [List.drop_drop, show i + 1 + 1 + (n - 2) = i + n by omega]
    rw [List.length_drop]
    have : decide (n ≤ l.length - (i + 1 + 1) + 2) = decide (i + n ≤ l.length) := by rw [decide_eq_decide]; omega
    rw [this]
  · rw [decide_eq_false h2]; rfl

def strOf : Value → ByteArray
  | .string s => s
  | _ => ⟨#[]⟩
theorem getD_byte (s : ByteArray) (i : Nat) (h : i < s.size) : s.data.toList.getD i 0 = s[i] := by
  rw [List.getD_eq_getElem?_getD, List.getElem?_eq_getElem (by rw [Oct.len_eq]; exact h)]; rfl

theorem got11 (s : ByteArray) (h : 1 < s.size) : got s 1 1 = (s[1].toNat : Int) ∧ gotB s 1 1 = true := by
  have hb : gotB s 1 1 = true := (gotB_iff s 1 1).2 ⟨⟨by omega, by omega⟩, by omega, by omega⟩
  refine ⟨?_, hb⟩
  rw [got, if_pos hb]
  show ((Oct.num ((s.data.toList.drop 1).take 1) : Nat) : Int) = _
  rw [drop_head _ 1 (by rw [Oct.len_eq]; omega), getD_byte s 1 h]
  simp [Oct.num]
theorem got11_no (s : ByteArray) (h : ¬ 1 < s.size) : got s 1 1 = 0 ∧ gotB s 1 1 = false := by
  have hb : gotB s 1 1 = false := by
    cases hb : gotB s 1 1 with
    | false => rfl
    | true => obtain ⟨_, _, h3⟩ := (gotB_iff s 1 1).1 hb; omega
  exact ⟨by rw [got, if_neg (by rw [hb]; decide)], hb⟩
theorem u8ne (a : UInt8) (n : Nat) (h : a ≠ UInt8.ofNat n) : ¬ ((a.toNat : Int) = n) := fun e => h (by rw [← UInt8.ofNat_toNat (x := a)]; congr 1; omega)

set_option maxHeartbeats 400000 in
theorem optSize_one (s : ByteArray) (w : World) (h : 0 < s.size) (hk : s[0] = 1) :
    Calls Try.prog 32 #[.string s] w fun e w' => e = .returned (.tuple #[.int .i64 1, .bool true]) ∧ w' = w := by
  have hk' : ((s[0].toNat : Nat) : Int) = 1 := by rw [hk]; rfl
  clear hk
  go_enter Try.func32, Try.ntmps32
  go_wp2_with fail
  go_ret2
  exact ⟨rfl, rfl⟩

set_option maxHeartbeats 400000 in
theorem optSize_none (s : ByteArray) (w : World) (h : s.size = 1) (hk : s[0] ≠ 1) (hs : s.size ≤ maxLen) :
    Calls Try.prog 32 #[.string s] w fun e w' => e = .returned (.tuple #[.int .i64 0, .bool false]) ∧ w' = w := by
  have hk' : ¬ ((s[0].toNat : Int) = 1) := u8ne _ 1 hk
  have h0 : 0 < s.size := by omega
  obtain ⟨g1, g2⟩ := got11_no s (by omega)
  have hg := fun u => get_any s 1 1 u hs
  rw [g1, g2] at hg
  clear hk g1 g2
  go_enter Try.func32, Try.ntmps32
  go_wp2_with fail
  refine (hg _).mono ?_
  rintro e w' ⟨rfl, rfl⟩
  go_wp2_with fail
  go_ret2
  exact ⟨rfl, rfl⟩

set_option maxHeartbeats 400000 in
theorem optSize_some (s : ByteArray) (w : World) (h : 1 < s.size) (hk : s[0] ≠ 1) (hs : s.size ≤ maxLen) :
    Calls Try.prog 32 #[.string s] w fun e w' => e = .returned (.tuple #[.int .i64 s[1].toNat, .bool (decide (2 ≤ s[1].toNat) && decide (s[1].toNat ≤ s.size))]) ∧ w' = w := by
  have hk' : ¬ ((s[0].toNat : Int) = 1) := u8ne _ 1 hk
  have h0 : 0 < s.size := by omega
  obtain ⟨g1, g2⟩ := got11 s h
  have hg := fun u => get_any s 1 1 u hs
  rw [g1, g2] at hg
  have hb := s[1].toNat_lt
  obtain ⟨n, hn⟩ : ∃ n : Nat, s[1].toNat = n := ⟨_, rfl⟩
  rw [hn] at hg hb ⊢
  clear hk g1 g2 hn
  unfold maxLen at hs
  by_cases h2 : 2 ≤ n
  · by_cases h3 : n ≤ s.size
    · have d1 : decide (2 ≤ n) = true := by simpa using h2
      have d2 : decide (n ≤ s.size) = true := by simpa using h3
      rw [d1, d2]
      go_enter Try.func32, Try.ntmps32
      go_wp2_with fail
      refine (hg _).mono ?_
      rintro e w' ⟨rfl, rfl⟩
      go_wp2_with fail
      go_ret2
      exact ⟨rfl, rfl⟩
    · have d2 : decide (n ≤ s.size) = false := by simpa using h3
      rw [d2, Bool.and_false]
      go_enter Try.func32, Try.ntmps32
      go_wp2_with fail
      refine (hg _).mono ?_
      rintro e w' ⟨rfl, rfl⟩
      go_wp2_with fail
      go_ret2
      exact ⟨rfl, rfl⟩
  · have d1 : decide (2 ≤ n) = false := by simpa using h2
    rw [d1, Bool.false_and]
    go_enter Try.func32, Try.ntmps32
    go_wp2_with fail
    refine (hg _).mono ?_
    rintro e w' ⟨rfl, rfl⟩
    go_wp2_with fail
    go_ret2
    exact ⟨rfl, rfl⟩


set_option maxHeartbeats 1000000 in
theorem optsRight_any (s : ByteArray) (w : World) (hs : s.size ≤ 140737488355328) :
    Calls Try.prog 26 #[.string s] w fun e w' => e = .returned (.bool (optsOk s.data.toList)) ∧ w' = w := by
  go_enter Try.func26, Try.ntmps26
  go_wp2
  go_loop [0] (fun t => ∃ x : ByteArray, x.size ≤ s.size ∧ t = .string x ∧ optsOk x.data.toList = optsOk s.data.toList) (fun t => (strOf t).size)
  case atStart => exact ⟨s, Nat.le_refl _, rfl, rfl⟩
  case round =>
    obtain ⟨x, hx, rfl, ho⟩ := hrel
    have hl := Oct.len_eq x
    have HO := hide ho
    clear ho
    have hxm : x.size ≤ maxLen := by unfold maxLen; omega
    by_cases he : x.size = 0
    · have HR : Hid (true = optsOk s.data.toList) := by
        show _ = _
        rw [← unhide HO]; have := opts_end x.data.toList 0 (by omega); rw [List.drop_zero] at this; exact this.symm
      go_wp2_with fail
      go_ret
      exact ⟨ret_bool HR.out, rfl⟩
    · have h0 : 0 < x.size := by omega
      have hb0 := getD_byte x 0 h0
      by_cases hz : x[0] = 0
      · have hz' : (x[0].toNat : Int) = 0 := by rw [hz]; rfl
        have HR : Hid (true = optsOk s.data.toList) := by
          show _ = _
          rw [← unhide HO]; have := opts_zero x.data.toList 0 (by omega) (by rw [hb0, hz]); rw [List.drop_zero] at this; exact this.symm
        clear hz hb0 he
        go_wp2_with fail
        go_ret
        exact ⟨ret_bool HR.out, rfl⟩
      · have hz' : ¬ ((x[0].toNat : Int) = 0) := u8ne _ 0 hz
        by_cases ho : x[0] = 1
        · have HR : Hid (optsOk (x.extract 1 x.size).data.toList = optsOk s.data.toList) := by
            show _ = _
            rw [← unhide HO]; have := opts_one x.data.toList 0 (by omega) (by rw [hb0, ho]); rw [List.drop_zero] at this
            rw [this, Oct.ext_list, List.take_of_length_le (by omega)]
          have hsz1 := Oct.ext_size x 1 x.size (Nat.le_refl _)
          have hq : (1 : Int) ≤ x.size := by omega
          have HC := fun u => optSize_one x u h0 ho
          clear hb0 hz ho
          go_wp2_with fail
          refine (HC _).mono ?_
          rintro e w' ⟨rfl, rfl⟩
          go_wp2_with fail
          go_round
          case rel => exact ⟨x.extract 1 x.size, by omega, rfl, HR.out⟩
          case measure => simp only [strOf]; omega
        · by_cases h1 : x.size = 1
          · have HR : Hid (false = optsOk s.data.toList) := by
              show _ = _
              rw [← unhide HO]; have := opts_last x.data.toList 0 (by omega) (by rw [hb0]; exact hz) (by rw [hb0]; exact ho); rw [List.drop_zero] at this; exact this.symm
            have HC := fun u => optSize_none x u h1 ho hxm
            clear hb0 hz ho
            go_wp2_with fail
            refine (HC _).mono ?_
            rintro e w' ⟨rfl, rfl⟩
            go_wp2_with fail
            go_ret
            exact ⟨ret_bool HR.out, rfl⟩
          · have h2 : 1 < x.size := by omega
            have hb1 := getD_byte x 1 h2
            have HL := opts_long x.data.toList 0 x[1].toNat (by omega) (by rw [hb0]; exact hz) (by rw [hb0]; exact ho) (by rw [hb1])
            rw [List.drop_zero, Nat.zero_add, hl] at HL
            have HC := fun u => optSize_some x u h2 ho hxm
            obtain ⟨n, hn⟩ : ∃ n : Nat, x[1].toNat = n := ⟨_, rfl⟩
            rw [hn] at HL HC
            have HL := hide HL
            cases hd : (decide (2 ≤ n) && decide (n ≤ x.size)) with
            | false =>
              have HR : Hid (false = optsOk s.data.toList) := by
                show _ = _
                rw [← unhide HO, unhide HL, hd]; rfl
              rw [hd] at HC
              clear hb0 hb1 hz ho hn hd
              go_wp2_with fail
              refine (HC _).mono ?_
              rintro e w' ⟨rfl, rfl⟩
              go_wp2_with fail
              go_ret
              exact ⟨ret_bool HR.out, rfl⟩
            | true =>
              have HR : Hid (optsOk (x.extract n x.size).data.toList = optsOk s.data.toList) := by
                show _ = _
                rw [← unhide HO, unhide HL, hd, Bool.true_and, Oct.ext_list, List.take_of_length_le (by omega)]
              rw [hd] at HC
              have hn2 : 2 ≤ n ∧ n ≤ x.size := by simpa using hd
              obtain ⟨hn2, hn3⟩ := hn2
              have hsz1 := Oct.ext_size x n x.size (Nat.le_refl _)
              clear hb0 hb1 hz ho hn hd
              go_wp2_with fail
              refine (HC _).mono ?_
              rintro e w' ⟨rfl, rfl⟩
              go_wp2_with fail
              go_round
              case rel => exact ⟨x.extract n x.size, by omega, by simp, HR.out⟩
              case measure => simp only [strOf]; simp; omega

set_option maxHeartbeats 1000000 in
theorem roptsRight_any (s : ByteArray) (w : World) (hs : s.size ≤ 140737488355328) :
    Calls Try.prog 17 #[.string s] w fun e w' => e = .returned (.bool (optsOk s.data.toList)) ∧ w' = w := by
  have hl := Oct.len_eq s
  go_enter Try.func17, Try.ntmps17
  go_wp2
  go_loop [3] (fun t => ∃ i : Nat, i ≤ s.size ∧ t = .int .i64 i ∧ optsOk (s.data.toList.drop i) = optsOk s.data.toList) (fun t => s.size - (intOf t).toNat)
  case atStart => exact ⟨0, Nat.zero_le _, rfl, rfl⟩
  case round =>
    obtain ⟨i, hi, rfl, ho⟩ := hrel
    have HO := hide ho
    clear ho
    by_cases he : i = s.size
    · have HR : Hid (true = optsOk s.data.toList) := by
        show _ = _
        rw [← unhide HO]; exact (opts_end s.data.toList i (by omega)).symm
      have hd : decide ((i : Int) < s.size) = false := by simp; omega
      go_wp2_with fail
      go_ret
      exact ⟨ret_bool HR.out, rfl⟩
    · have h0 : i < s.size := by omega
      have hb0 := getD_byte s i h0
      by_cases hz : s[i] = 0
      · have hz' : (s[i].toNat : Int) = 0 := by rw [hz]; rfl
        have HR : Hid (true = optsOk s.data.toList) := by
          show _ = _
          rw [← unhide HO]; exact (opts_zero s.data.toList i (by omega) (by rw [hb0, hz])).symm
        clear hz hb0 he
        go_wp2_with fail
        go_ret
        exact ⟨ret_bool HR.out, rfl⟩
      · have hz' : ¬ ((s[i].toNat : Int) = 0) := u8ne _ 0 hz
        by_cases ho : s[i] = 1
        · have ho' : (s[i].toNat : Int) = 1 := by rw [ho]; rfl
          have HR : Hid (optsOk (s.data.toList.drop (i + 1)) = optsOk s.data.toList) := by
            show _ = _
            rw [← unhide HO]; exact (opts_one s.data.toList i (by omega) (by rw [hb0, ho])).symm
          clear hb0 hz ho
          go_wp2_with fail
          go_round
          case rel => exact ⟨i + 1, by omega, by go_num, HR.out⟩
          case measure => simp [intOf]; omega
        · have ho' : ¬ ((s[i].toNat : Int) = 1) := u8ne _ 1 ho
          by_cases h1 : i + 1 = s.size
          · have HR : Hid (false = optsOk s.data.toList) := by
              show _ = _
              rw [← unhide HO]; exact (opts_last s.data.toList i (by omega) (by rw [hb0]; exact hz) (by rw [hb0]; exact ho)).symm
            have hd : decide ((s.size : Int) ≤ i + 1) = true := by simp; omega
            clear hb0 hz ho
            go_wp2_with fail
            go_ret
            exact ⟨ret_bool HR.out, rfl⟩
          · have h2 : i + 1 < s.size := by omega
            have hb1 := getD_byte s (i + 1) h2
            have hlt := s[i + 1].toNat_lt
            have HL := opts_long s.data.toList i s[i + 1].toNat (by omega) (by rw [hb0]; exact hz) (by rw [hb0]; exact ho) (by rw [hb1])
            rw [hl] at HL
            have HL := hide HL
            have hd : decide ((s.size : Int) ≤ i + 1) = false := by simp; omega
            clear hb0 hb1 hz ho
            by_cases h3 : s[i + 1].toNat < 2
            · have HR : Hid (false = optsOk s.data.toList) := by
                show _ = _
                rw [← unhide HO, unhide HL, decide_eq_false (by omega)]; rfl
              go_wp2_with fail
              go_ret
              exact ⟨ret_bool HR.out, rfl⟩
            · by_cases h4 : s.size < i + s[i + 1].toNat
              · have HR : Hid (false = optsOk s.data.toList) := by
                  show _ = _
                  rw [← unhide HO, unhide HL, decide_eq_false (p := i + _ ≤ _) (by omega), Bool.and_false]; rfl
                go_wp2_with fail
                go_ret
                exact ⟨ret_bool HR.out, rfl⟩
              · have HR : Hid (optsOk (s.data.toList.drop (i + s[i + 1].toNat)) = optsOk s.data.toList) := by
                  show _ = _
                  rw [← unhide HO, unhide HL, decide_eq_true (p := 2 ≤ _) (by omega), decide_eq_true (p := i + _ ≤ _) (by omega)]; rfl
                go_wp2_with fail
                go_round
                case rel => exact ⟨i + s[i + 1].toNat, by omega, by go_num, HR.out⟩
                case measure => simp [intOf]; omega
end Go.Proofs.Ytgfmpcfdggcifaa
