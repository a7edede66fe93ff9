/- What the reference's Parse computes: the same as Parse. -/
import Derived.Test.YteggaeleehlhmaaDoorIcRef
namespace Go.Proofs.YteggaeleehlhmaaDoor
open Go.ChangeShapes Go.WideShapes Go.ChangeAt Go.RowKit

theorem got_byte (s : ByteArray) (p : Nat) (h : p < s.size) : got s p 1 = ((s[p]'h).toNat : Int) := by
  have := got_of (s := s) (p := p) (k := 1) ⟨by decide, by decide⟩ (by omega)
  refine this.trans ?_
  have e : (s.data.toList.drop p).take 1 = [s[p]'h] := by
    have h2 : p < s.data.toList.length := by rw [Oct.len_eq]; exact h
    rw [List.drop_eq_getElem_cons h2]
    rfl
  rw [e]
  simp [Oct.num]
set_option maxRecDepth 100000 in
set_option maxHeartbeats 2000000 in
theorem rparse_any (s : ByteArray) (w : World) (hs : s.size ≤ 1048576) :
    Calls Tryd.prog 17 #[.string s] w fun e w' => e = .returned (.tuple #[(parseH s).val, .int .i64 (parseE s)]) ∧ Below w.heap.size w w' := by
  by_cases h8 : s.size < 8
  case pos =>
    have d8 : decide ((s.size : Int) < 8) = true := by simp; omega
    have HE : Hid (parseE s = 2) := by show _ = _; unfold parseE; rw [if_pos h8]
    have HH : Hid (parseH s = zeroHd) := parseH_no (by rw [HE.out]; decide)
    rw [HH.out, HE.out]
    go_enter Tryd.func17, Tryd.ntmps17
    go_wp2_with fail
    refine bodyPost_ret (v := .tuple #[.agg #[.int .i64 0, .int .i64 0, .int .u32 0, .string ⟨#[]⟩], .int .i64 2]) (by simp [results, Tryd.results17, go_sem]) rfl ⟨rfl, ?_⟩
    (repeat first | exact Below.refl _ _ | refine Below.drew ?_ | refine Below.alloc ?_ (by simp <;> omega) _ | refine Below.setCell ?_ (by simp <;> omega) _)
  case neg =>
  have d8 : decide ((s.size : Int) < 8) = false := by simp; omega
  have HSum := hide (fun u => rsum_any s u hs)
  have hN := newHd w zeroHd 31
  have hA := alloc_on w (.cells #[.int .i64 0, .int .i64 0, .int .u32 0, .string ⟨#[]⟩] 31)
  simp only [zeroHd] at hN
  have hz : w.heap.size < (w.alloc (.cells #[.int .i64 0, .int .i64 0, .int .u32 0, .string ⟨#[]⟩] 31)).heap.size := by simp
  generalize hV : w.alloc (.cells #[.int .i64 0, .int .i64 0, .int .u32 0, .string ⟨#[]⟩] 31) = V at *
  have HV := hide hV
  have HN := hide hN
  have HA := hide hA
  clear hV hN hA
  by_cases h7 : Ck.sum s.data.toList = 65535
  case neg =>
    have d7 : (Ck.sum s.data.toList != 65535) = true := by simpa using h7
    have HE : Hid (parseE s = 7) := by show _ = _; unfold parseE; rw [if_neg h8, if_neg h7]
    have HH : Hid (parseH s = zeroHd) := parseH_no (by rw [HE.out]; decide)
    rw [HH.out, HE.out]
    generalize Ck.sum s.data.toList = X at *
    clear h7 h8
    go_enter Tryd.func17, Tryd.ntmps17
    go_wp2_with fail
    rw [HV.out]
    refine (unhide HSum _).mono ?_
    rintro e w1 ⟨rfl, hb1⟩
    have hn1 := (unhide HN).on hb1 hz
    have hbel := (unhide HA).trans (hb1.mono (Nat.le_of_lt hz))
    have q0 := hn1.at_ 0 (by decide)
    have q1 := hn1.at_ 1 (by decide)
    have q2 := hn1.at_ 2 (by decide)
    have q3 := hn1.at_ 3 (by decide)
    simp only [hcell] at q0 q1 q2 q3
    have f0 := hn1.free 0
    have f1 := hn1.free 1
    have f2 := hn1.free 2
    have f3 := hn1.free 3
    have HB := hide hbel
    clear hb1 hn1 hbel
    go_wp2_with fail
    refine bodyPost_ret (v := .tuple #[.agg #[.int .i64 0, .int .i64 0, .int .u32 0, .string ⟨#[]⟩], .int .i64 7]) (by simp [results, Tryd.results17, go_sem, q0, q1, q2, q3]) rfl ⟨rfl, ?_⟩
    (repeat first | exact unhide HB | refine Below.drew ?_ | refine Below.alloc ?_ (by simp <;> omega) _ | refine Below.setCell ?_ (by simp <;> omega) _)
  case pos =>
    have d7 : (Ck.sum s.data.toList != 65535) = false := by simpa using h7
    have HE : Hid (parseE s = 0) := by show _ = _; unfold parseE; rw [if_neg h8, if_pos h7]
    have HH : Hid (parseH s = pH s) := parseH_of HE.out
    have hm : s.size ≤ maxLen := by unfold maxLen; omega
    have G4 := hide (fun u => rget_any s 4 4 u hm)
    have kw := wrap_u32 _ (got_lo s 4 4) (got_hi4 s 4)
    have g0 : got s 0 1 = ((s[0]'(by omega)).toNat : Int) := got_byte s 0 (by omega)
    have g1 : got s 1 1 = ((s[1]'(by omega)).toNat : Int) := got_byte s 1 (by omega)
    have HP : Hid (pH s = ⟨got s 0 1, got s 1 1, got s 4 4, s.extract 8 s.size⟩) := rfl
    rw [HH.out, HE.out, HP.out]
    have h8' : (8 : Int) ≤ s.size := by omega
    have b0 : (0 : Int) < s.size := by omega
    have b1 : (1 : Int) < s.size := by omega
    have x00 := got_lo s 0 1
    have x01 := got_hi1 s 0
    have x10 := got_lo s 1 1
    have x11 := got_hi1 s 1
    have hz8 : 0 < s.size := by omega
    have hz9 : 1 < s.size := by omega
    generalize Ck.sum s.data.toList = X at *
    generalize hx0 : got s 0 1 = x0 at *
    generalize hx1 : got s 1 1 = x1 at *
    generalize got s 4 4 = x4 at *
    generalize gotB s 4 4 = y4 at *
    have g0' := g0.symm
    have g1' := g1.symm
    have k0 := Oct.wraps_i64 x0 x00 (by omega)
    have k1 := Oct.wraps_i64 x1 x10 (by omega)
    clear h7 HP HH HE g0 g1 hx0 hx1
    go_enter Tryd.func17, Tryd.ntmps17
    go_wp2_with fail
    rw [HV.out]
    refine (unhide HSum _).mono ?_
    rintro e w1 ⟨rfl, hb1⟩
    have hn1 := (unhide HN).on hb1 hz
    have hbel := (unhide HA).trans (hb1.mono (Nat.le_of_lt hz))
    have hz1 : w.heap.size < w1.heap.size := Nat.lt_of_lt_of_le hz hb1.size
    have HB := hide hbel
    have HN1 := hide hn1
    clear hb1 hn1 hbel HN HA HV
    go_wp2_with fail
    refine (unhide G4 _).mono ?_
    rintro e w2 ⟨rfl, rfl⟩
    have q0 := (unhide HN1).at_ 0 (by decide)
    have q1 := (unhide HN1).at_ 1 (by decide)
    have q2 := (unhide HN1).at_ 2 (by decide)
    have q3 := (unhide HN1).at_ 3 (by decide)
    simp only [hcell] at q0 q1 q2 q3
    have f0 := (unhide HN1).free 0
    have f1 := (unhide HN1).free 1
    have f2 := (unhide HN1).free 2
    have f3 := (unhide HN1).free 3
    have HS := hide (setHd_at ⟨x0, x1, x4, s.extract 8 s.size⟩ (unhide HN1).at_)
    have HB := hide (setHd_below (unhide HB) w.heap.size ⟨x0, x1, x4, s.extract 8 s.size⟩ (Nat.le_refl _))
    go_wp2_with fail
    go_region
    go_wp2_with fail
    have HS := unhide HS
    have HB := unhide HB
    have c0 := HS 0 (by decide)
    have c1 := HS 1 (by decide)
    have c2 := HS 2 (by decide)
    have c3 := HS 3 (by decide)
    simp only [setHd, hcell] at c0 c1 c2 c3 HB
    refine bodyPost_ret (v := .tuple #[.agg #[.int .i64 x0, .int .i64 x1, .int .u32 x4, .string (s.extract 8 s.size)], .int .i64 0]) (by simp [results, Tryd.results17, go_sem, c0, c1, c2, c3]) rfl ⟨rfl, ?_⟩
    exact HB.drew
end Go.Proofs.YteggaeleehlhmaaDoor
