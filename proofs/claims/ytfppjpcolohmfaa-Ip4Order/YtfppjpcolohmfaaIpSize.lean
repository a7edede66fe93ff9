/- What Size computes, and what the reference Sizes computes. -/
import Derived.Test.YtfppjpcolohmfaaIpMeas
import Derived.Test.YtfppjpcolohmfaaIpParse
namespace Go.Proofs.Ytfppjpcolohmfaa
open Go.ChangeShapes Go.WideShapes Go.ChangeAt Go.RowKit

def sizeH (s : ByteArray) : Int := if measE s = 0 then fget s 1 * 4 else 0
def sizeT (s : ByteArray) : Int := if measE s = 0 then fget s 3 else 0
theorem ret_iib {a b c d : Int} {x y : Bool} (h1 : a = b) (h2 : c = d) (h3 : x = y) : Ending.returned (.tuple #[.int .i64 a, .int .i64 c, .bool x]) = .returned (.tuple #[.int .i64 b, .int .i64 d, .bool y]) := by rw [h1, h2, h3]
theorem ret_iii {a b c d x y : Int} (h1 : a = b) (h2 : c = d) (h3 : x = y) : Ending.returned (.tuple #[.int .i64 a, .int .i64 c, .int .i64 x]) = .returned (.tuple #[.int .i64 b, .int .i64 d, .int .i64 y]) := by rw [h1, h2, h3]

set_option maxRecDepth 100000 in
set_option maxHeartbeats 2000000 in
theorem size_of_any (s : ByteArray) (w : World) (hs : s.size ≤ 281474976710656) :
    Calls Try.prog 20 #[.string s] w fun e w' => e = .returned (.tuple #[.int .i64 (sizeH s), .int .i64 (sizeT s), .bool (decide (measE s = 0))]) ∧ Below w.heap.size w w' := by
  go_enter Try.func20, Try.ntmps20
  go_wp2_with fail
  refine (measured_any s _ hs).mono ?_
  rintro e w1 ⟨rfl, hb1⟩
  by_cases hm : measE s = 0
  case neg =>
    have H1 : Hid (sizeH s = 0) := if_neg hm
    have H2 : Hid (sizeT s = 0) := if_neg hm
    have H3 : Hid (decide (measE s = 0) = false) := decide_eq_false hm
    have hd : (measE s != 0) = true := by simpa using hm
    have HB := hide hb1
    generalize hFe : measF s = F at *
    clear hb1 hm
    go_wp2_with fail
    go_ret3
    exact ⟨ret_iib H1.out.symm H2.out.symm H3.out.symm, (unhide HB).alloc (unhide HB).size _⟩
  case pos =>
    have H1 : Hid (sizeH s = fget s 1 * 4) := if_pos hm
    have H2 : Hid (sizeT s = fget s 3) := if_pos hm
    have H3 : Hid (decide (measE s = 0) = true) := decide_eq_true hm
    have hF : measF s = fget s := by unfold measF; rw [if_pos hm]
    rw [hF]
    have f1 := fit1 (fget_fits s)
    have HB := hide hb1
    have hsz := hb1.size
    clear hb1 hF
    generalize hFe : fget s = F at *
    have HV : Hid (∀ V, w1.alloc (.cells #[.int .i64 (F 0), .int .i64 (F 1), .int .i64 (F 2), .int .i64 (F 3), .int .i64 (F 4), .int .i64 (F 5), .int .i64 (F 6), .int .i64 (F 7), .int .i64 (F 8), .int .i64 (F 9), .int .i64 (F 10), .int .i64 (F 11)] 55) = V → FixAt V w1.heap.size F ∧ V.heap.size = w1.heap.size + 1 ∧ Below w.heap.size w V) := by
      rintro V rfl
      exact ⟨fixAt_new w1 F _, by simp, (unhide HB).alloc (unhide HB).size _⟩
    have hm0 : measE s = 0 := hm
    clear hm
    go_wp2_with fail
    have hV := HV.out _ rfl
    generalize w1.alloc (.cells #[.int .i64 (F 0), .int .i64 (F 1), .int .i64 (F 2), .int .i64 (F 3), .int .i64 (F 4), .int .i64 (F 5), .int .i64 (F 6), .int .i64 (F 7), .int .i64 (F 8), .int .i64 (F 9), .int .i64 (F 10), .int .i64 (F 11)] 55) = V at *
    obtain ⟨v1, v2, v3⟩ := hV
    clear HV
    refine wp_region_grow (by kernel_rfl) [.int .i64 (F 1 * 4), .pointer (some ⟨w1.heap.size, 3, none⟩), .int .i64 (F 3), .int .i64 (F 1 * 4), .int .i64 (F 3), .bool true] (by kernel_rfl) ?op ?fin
    case op =>
      intro i o bx u ho hbel hS
      match i, ho with
      | 0, ho =>
        obtain rfl := Option.some.inj ho
        have d5 : bx.tmps.getD 5 undef = .pointer (some ⟨w1.heap.size, 0, none⟩) := hS.base 5 (by kernel_rfl)
        refine .inl ⟨rfl, ends_call' (c := .int .i64 (F 1 * 4)) (f := 24) (args := #[.pointer (some ⟨w1.heap.size, 0, none⟩)]) ?_ (size_quiet w1.heap.size F u (v1.drew.on hbel (by omega)) (by omega) (by omega))⟩
        simp [Act.eval, d5, go_sem]
      | 1, ho =>
        obtain rfl := Option.some.inj ho
        have d5 : bx.tmps.getD 5 undef = .pointer (some ⟨w1.heap.size, 0, none⟩) := hS.base 5 (by kernel_rfl)
        refine .inl ⟨rfl, ends_value' (c := .pointer (some ⟨w1.heap.size, 3, none⟩)) ?_⟩
        simp [Act.eval, d5, go_sem]
      | 2, ho =>
        obtain rfl := Option.some.inj ho
        have d15 : bx.tmps.getD 15 undef = .pointer (some ⟨w1.heap.size, 3, none⟩) := hS.dep 1 15 (by kernel_rfl) (by kernel_rfl)
        have hl := v1.drew.on hbel (by omega) 3 (by decide)
        refine .inl ⟨rfl, ends_value' (c := .int .i64 (F 3)) ?_⟩
        simp [Act.eval, d15, go_sem, hl]
      | 3, ho =>
        obtain rfl := Option.some.inj ho
        have d14 : bx.tmps.getD 14 undef = .int .i64 (F 1 * 4) := hS.dep 0 14 (by kernel_rfl) (by kernel_rfl)
        refine .inl ⟨rfl, ends_value' (c := .int .i64 (F 1 * 4)) ?_⟩
        simp [execOp, Act.eval, d14]
      | 4, ho =>
        obtain rfl := Option.some.inj ho
        have d16 : bx.tmps.getD 16 undef = .int .i64 (F 3) := hS.dep 2 16 (by kernel_rfl) (by kernel_rfl)
        refine .inl ⟨rfl, ends_value' (c := .int .i64 (F 3)) ?_⟩
        simp [execOp, Act.eval, d16]
      | 5, ho =>
        obtain rfl := Option.some.inj ho
        refine .inl ⟨rfl, ends_value' (c := .bool true) ?_⟩
        simp [execOp, Act.eval]
      | n + 6, ho => exact absurd ho (by simp)
    case fin =>
      intro u hbel
      simp [putAll, dstAt, Act.put]
      go_wp2_with fail
      go_ret3
      exact ⟨ret_iib H1.out.symm H2.out.symm H3.out.symm, v3.drew.trans (hbel.mono (by omega))⟩

set_option maxRecDepth 100000 in
set_option maxHeartbeats 2000000 in
theorem rsizes_any (s : ByteArray) (w : World) (hs : s.size ≤ 281474976710656) :
    Calls Try.prog 21 #[.string s] w fun e w' => e = .returned (.tuple #[.int .i64 (sizeH s), .int .i64 (sizeT s), .int .i64 (measE s)]) ∧ w' = w := by
  have hs9 : (s.size : Int) ≤ 281474976710656 := by omega
  by_cases h20 : s.size < 20
  · have HE : Hid (measE s = 2) := by show _ = _; unfold measE; rw [if_pos h20]
    have H1 : Hid (sizeH s = 0) := if_neg (by rw [HE.out]; decide)
    have H2 : Hid (sizeT s = 0) := if_neg (by rw [HE.out]; decide)
    have hd : decide ((s.size : Int) < 20) = true := by simp; omega
    go_enter Try.func21, Try.ntmps21
    go_wp2_with fail
    go_ret3
    exact ⟨ret_iii H1.out.symm H2.out.symm HE.out.symm, rfl⟩
  · have hd20 : decide ((s.size : Int) < 20) = false := by simp; omega
    have e0 : fget s 0 = (s[0].toNat : Int) / 16 := by rw [fget_fb s (by omega) 0 (by decide)]; show byt s 0 / 16 = _; rw [byt_eq s 0 (by omega)]
    have e1 : fget s 1 = (s[0].toNat : Int) % 16 := by rw [fget_fb s (by omega) 1 (by decide)]; show byt s 0 % 16 = _; rw [byt_eq s 0 (by omega)]
    have e3 : got s 2 2 = fget s 3 := by
      rw [fget_fb s (by omega) 3 (by decide), got, if_pos ((gotB_iff s 2 2).2 ⟨⟨by omega, by omega⟩, by omega, by omega⟩)]
      exact num2 s.data.toList 2 (by rw [Oct.len_eq]; omega)
    have hget : ∀ u, Calls Try.prog 37 #[.string s, .int .i64 2, .int .i64 2] u fun e u' => e = .returned (.tuple #[.int .i64 (fget s 3), .bool (gotB s 2 2)]) ∧ u' = u := fun u => by
      rw [← e3]; exact rget_any s 2 2 u (by unfold maxLen; omega)
    clear e3
    have hlt := s[0].toNat_lt
    have hzz : 0 < s.size := by omega
    have hsz4 : 4 * ((s[0].toNat : Int) % 16) = fget s 1 * 4 := by omega
    generalize hb0 : s[0].toNat = b0 at *
    by_cases h0 : fget s 0 = 4
    case neg =>
      have HE : Hid (measE s = 3) := by show _ = _; unfold measE; rw [if_neg h20, if_pos h0]
      have H1 : Hid (sizeH s = 0) := if_neg (by rw [HE.out]; decide)
      have H2 : Hid (sizeT s = 0) := if_neg (by rw [HE.out]; decide)
      have d0 : ((b0 : Int) / 16 != 4) = true := by simp; omega
      go_enter Try.func21, Try.ntmps21
      go_wp2_with fail
      go_ret3
      exact ⟨ret_iii (H1.out.symm) H2.out.symm HE.out.symm, rfl⟩
    case pos =>
      have d0 : ((b0 : Int) / 16 != 4) = false := by simp; omega
      by_cases ha : fget s 1 * 4 < 20
      case pos =>
        have HE : Hid (measE s = 4) := by show _ = _; unfold measE; rw [if_neg h20, if_neg (not_not_intro h0), if_pos (.inl ha)]
        have H1 : Hid (sizeH s = 0) := if_neg (by rw [HE.out]; decide)
        have H2 : Hid (sizeT s = 0) := if_neg (by rw [HE.out]; decide)
        have d1 : decide (4 * ((b0 : Int) % 16) < 20) = true := by simp; omega
        go_enter Try.func21, Try.ntmps21
        go_wp2_with fail
        go_ret3
        exact ⟨ret_iii (H1.out.symm) H2.out.symm HE.out.symm, rfl⟩
      case neg =>
        have d1 : decide (4 * ((b0 : Int) % 16) < 20) = false := by simp; omega
        by_cases hb : (s.size : Int) < fget s 1 * 4
        case pos =>
          have HE : Hid (measE s = 4) := by show _ = _; unfold measE; rw [if_neg h20, if_neg (not_not_intro h0), if_pos (.inr hb)]
          have H1 : Hid (sizeH s = 0) := if_neg (by rw [HE.out]; decide)
          have H2 : Hid (sizeT s = 0) := if_neg (by rw [HE.out]; decide)
          have d2 : decide ((s.size : Int) < 4 * ((b0 : Int) % 16)) = true := by simp; omega
          go_enter Try.func21, Try.ntmps21
          go_wp2_with fail
          go_ret3
          exact ⟨ret_iii (H1.out.symm) H2.out.symm HE.out.symm, rfl⟩
        case neg =>
          have d2 : decide ((s.size : Int) < 4 * ((b0 : Int) % 16)) = false := by simp; omega
          by_cases hc : fget s 3 < fget s 1 * 4
          case pos =>
            have HE : Hid (measE s = 5) := by show _ = _; unfold measE; rw [if_neg h20, if_neg (not_not_intro h0), if_neg (by omega), if_pos (.inl hc)]
            have H1 : Hid (sizeH s = 0) := if_neg (by rw [HE.out]; decide)
            have H2 : Hid (sizeT s = 0) := if_neg (by rw [HE.out]; decide)
            have d3 : decide (fget s 3 < 4 * ((b0 : Int) % 16)) = true := by simp; omega
            go_enter Try.func21, Try.ntmps21
            go_wp2_with fail
            refine (hget _).mono ?_
            rintro e w1 ⟨rfl, he1⟩
            have he1 := he1.symm
            subst he1
            go_wp2_with fail
            go_ret3
            exact ⟨ret_iii (H1.out.symm) H2.out.symm HE.out.symm, rfl⟩
          case neg =>
            have d3 : decide (fget s 3 < 4 * ((b0 : Int) % 16)) = false := by simp; omega
            by_cases hd : (s.size : Int) < fget s 3
            case pos =>
              have HE : Hid (measE s = 5) := by show _ = _; unfold measE; rw [if_neg h20, if_neg (not_not_intro h0), if_neg (by omega), if_pos (.inr hd)]
              have H1 : Hid (sizeH s = 0) := if_neg (by rw [HE.out]; decide)
              have H2 : Hid (sizeT s = 0) := if_neg (by rw [HE.out]; decide)
              have d4 : decide ((s.size : Int) < fget s 3) = true := by simpa using hd
              go_enter Try.func21, Try.ntmps21
              go_wp2_with fail
              refine (hget _).mono ?_
              rintro e w1 ⟨rfl, he1⟩
              have he1 := he1.symm
              subst he1
              go_wp2_with fail
              go_ret3
              exact ⟨ret_iii (H1.out.symm) H2.out.symm HE.out.symm, rfl⟩
            case neg =>
              have d4 : decide ((s.size : Int) < fget s 3) = false := by simpa using hd
              by_cases he : 1500 < fget s 3
              case pos =>
                have HE : Hid (measE s = 18) := by show _ = _; unfold measE; rw [if_neg h20, if_neg (not_not_intro h0), if_neg (by omega), if_neg (by omega), if_pos he]
                have H1 : Hid (sizeH s = 0) := if_neg (by rw [HE.out]; decide)
                have H2 : Hid (sizeT s = 0) := if_neg (by rw [HE.out]; decide)
                have d5 : decide (1500 < fget s 3) = true := by simpa using he
                go_enter Try.func21, Try.ntmps21
                go_wp2_with fail
                refine (hget _).mono ?_
                rintro e w1 ⟨rfl, he1⟩
                have he1 := he1.symm
                subst he1
                go_wp2_with fail
                go_ret3
                exact ⟨ret_iii (H1.out.symm) H2.out.symm HE.out.symm, rfl⟩
              case neg =>
                have HE : Hid (measE s = 0) := by show _ = _; unfold measE; rw [if_neg h20, if_neg (not_not_intro h0), if_neg (by omega), if_neg (by omega), if_neg he]
                have H1 : Hid (sizeH s = fget s 1 * 4) := if_pos HE.out
                have H2 : Hid (sizeT s = fget s 3) := if_pos HE.out
                have d5 : decide (1500 < fget s 3) = false := by simpa using he
                go_enter Try.func21, Try.ntmps21
                go_wp2_with fail
                refine (hget _).mono ?_
                rintro e w1 ⟨rfl, he1⟩
                have he1 := he1.symm
                subst he1
                go_wp2_with fail
                go_ret3
                exact ⟨ret_iii (by rw [H1.out]; exact hsz4) H2.out.symm HE.out.symm, rfl⟩
end Go.Proofs.Ytfppjpcolohmfaa
