/- Contracts and mathematics of the layers below (IcKinds, IcBuild, IcParse). -/
import Derived.Test.YtinllnaekcifjaaGreatDoorIcA
import Derived.Test.YtinllnaekcifjaaGreatDoorCl
/- What Error and MTU of package icmp compute, and the reference's: one contract a function. -/
namespace Go.Proofs.YtinllnaekcifjaaGreatDoor.Ic
open Go.ChangeShapes Go.WideShapes Go.ChangeAt Go.RowKit

set_option maxHeartbeats 1000000 in
theorem error_any (k : Int) (w : World) (hE : Env w) :
    Calls Tryz.prog 76 #[.int .i64 k] w fun e w' => e = .returned (.bool (errB k)) ∧ Below w.heap.size w w' := by
  obtain ⟨⟨b0, b1⟩, ⟨c0, c1⟩, ⟨d0, d1⟩⟩ := hE.alloc (.cells #[.int .i64 k, .int .i64 0] 141)
  clear hE
  have HB := hide (alloc_on w (.cells #[.int .i64 k, .int .i64 0] 141))
  have HR : Hid (errB k = ((k == 3) || (k == 11) || (k == 12))) := rfl
  generalize errB k = R at *
  cases h3 : k == 3 with
  | true =>
    go_enter Tryz.func76, Tryz.ntmps76
    go_wp2
    go_ret
    exact ⟨ret_bool (by rw [HR.out, h3]; rfl), unhide HB⟩
  | false =>
    cases h11 : k == 11 with
    | true =>
      go_enter Tryz.func76, Tryz.ntmps76
      go_wp2
      go_ret
      exact ⟨ret_bool (by rw [HR.out, h3, h11]; rfl), unhide HB⟩
    | false =>
      cases h12 : k == 12 with
      | true =>
        go_enter Tryz.func76, Tryz.ntmps76
        go_wp2
        go_ret
        exact ⟨ret_bool (by rw [HR.out, h3, h11, h12]; rfl), unhide HB⟩
      | false =>
        go_enter Tryz.func76, Tryz.ntmps76
        go_wp2
        go_ret
        exact ⟨ret_bool (by rw [HR.out, h3, h11, h12]; rfl), unhide HB⟩

set_option maxHeartbeats 400000 in
theorem rerror_any (k : Int) (w : World) :
    Calls Tryz.prog 50 #[.int .i64 k] w fun e w' => e = .returned (.bool (errB k)) ∧ w' = w := by
  have HR : Hid (errB k = ((k == 3) || (k == 11) || (k == 12))) := rfl
  generalize errB k = R at *
  cases h3 : k == 3 with
  | true =>
    go_enter Tryz.func50, Tryz.ntmps50
    go_wp2
    go_ret
    exact ⟨ret_bool (by rw [HR.out, h3]; rfl), rfl⟩
  | false =>
    cases h11 : k == 11 with
    | true =>
      go_enter Tryz.func50, Tryz.ntmps50
      go_wp2
      go_ret
      exact ⟨ret_bool (by rw [HR.out, h3, h11]; rfl), rfl⟩
    | false =>
      go_enter Tryz.func50, Tryz.ntmps50
      go_wp2
      go_ret
      exact ⟨ret_bool (by rw [HR.out, h3, h11]; simp), rfl⟩

theorem mtuN_of {h : Hd} (e : mtuB h = true) : mtuN h = h.rest % 65536 := if_pos e
theorem mtuN_no {h : Hd} (e : mtuB h = false) : mtuN h = 0 := if_neg (by rw [e]; decide)

end Go.Proofs.YtinllnaekcifjaaGreatDoor.Ic

/- What Build of package icmp computes. -/
namespace Go.Proofs.YtinllnaekcifjaaGreatDoor.Ic
open Go.ChangeShapes Go.WideShapes Go.ChangeAt Go.RowKit

theorem put1_any (n : Int) (w : World) : Calls Tryz.prog 106 #[.int .i64 1, .int .i64 n] w fun e w' => e = .returned (.tuple #[.string (laid 1 n), .bool (inB n)]) ∧ Below w.heap.size w w' := by
  have h := put_any 1 n w
  rw [laidB_one] at h
  exact h
theorem Kept.cells {w W : World} {h : Hd} (k : Kept w h W) : W.cell? ⟨w.heap.size, 0, none⟩ = some (.int .i64 h.kind) ∧ W.cell? ⟨w.heap.size, 1, none⟩ = some (.int .i64 h.code) ∧ W.cell? ⟨w.heap.size, 2, none⟩ = some (.int .u32 h.rest) ∧ W.cell? ⟨w.heap.size, 3, none⟩ = some (.string h.body) :=
  ⟨k.at_ 0 (by decide), k.at_ 1 (by decide), k.at_ 2 (by decide), k.at_ 3 (by decide)⟩

end Go.Proofs.YtinllnaekcifjaaGreatDoor.Ic

/- What Parse of package icmp computes. -/
namespace Go.Proofs.YtinllnaekcifjaaGreatDoor.Ic
open Go.ChangeShapes Go.WideShapes Go.ChangeAt Go.RowKit

theorem got_hi1 (s : ByteArray) (p : Int) : got s p 1 ≤ 255 := by have := got_lt s p 1; simp at this; omega
set_option maxRecDepth 100000 in
set_option maxHeartbeats 2000000 in
theorem parse_any (s : ByteArray) (w : World) (hs : s.size ≤ 281474976710656) :
    Calls Tryz.prog 74 #[.string s] w fun e w' => e = .returned (.tuple #[(parseH s).val, .int .i64 (parseE s)]) ∧ Below w.heap.size w w' := by
  by_cases h8 : s.size < 8
  case pos =>
    have d8 : decide ((s.size : Int) < 8) = true := by simp; omega
    have HE : Hid (parseE s = 2) := by show _ = _; unfold parseE; rw [if_pos h8]
    have HH : Hid (parseH s = zeroHd) := parseH_no (by rw [HE.out]; decide)
    rw [HH.out, HE.out]
    go_enter Tryz.func74, Tryz.ntmps74
    go_wp2_with fail
    refine bodyPost_ret (v := .tuple #[.agg #[.int .i64 0, .int .i64 0, .int .u32 0, .string ⟨#[]⟩], .int .i64 2]) (by simp [results, Tryz.results74, go_sem]) rfl ⟨rfl, ?_⟩
    (repeat first | exact Below.refl _ _ | refine Below.drew ?_ | refine Below.alloc ?_ (by simp <;> omega) _ | refine Below.setCell ?_ (by simp <;> omega) _)
  case neg =>
  have d8 : decide ((s.size : Int) < 8) = false := by simp; omega
  have HSum := hide (fun u => sum_any s u hs)
  have hN := newHd w zeroHd 120
  have hA := alloc_on w (.cells #[.int .i64 0, .int .i64 0, .int .u32 0, .string ⟨#[]⟩] 120)
  simp only [zeroHd] at hN
  have hz : w.heap.size < (w.alloc (.cells #[.int .i64 0, .int .i64 0, .int .u32 0, .string ⟨#[]⟩] 120)).heap.size := by simp
  generalize hV : w.alloc (.cells #[.int .i64 0, .int .i64 0, .int .u32 0, .string ⟨#[]⟩] 120) = V at *
  have HV := hide hV
  have HN := hide hN
  have HA := hide hA
  clear hV hN hA
  by_cases h7 : Ck.sum s.data.toList = 65535
  case neg =>
    have d7 : (Ck.sum s.data.toList != 65535) = true := by simpa using h7
    have HE : Hid (parseE s = 7) := by show _ = _; unfold parseE; rw [if_neg h8, if_neg h7]
    have HH : Hid (parseH s = zeroHd) := parseH_no (by rw [HE.out]; decide)
    rw [HH.out, HE.out]
    generalize Ck.sum s.data.toList = X at *
    clear h7 h8
    go_enter Tryz.func74, Tryz.ntmps74
    go_wp2_with fail
    rw [HV.out]
    refine (unhide HSum _).mono ?_
    rintro e w1 ⟨rfl, hb1⟩
    have hn1 := (unhide HN).on hb1 hz
    have hbel := (unhide HA).trans (hb1.mono (Nat.le_of_lt hz))
    have q0 := hn1.at_ 0 (by decide)
    have q1 := hn1.at_ 1 (by decide)
    have q2 := hn1.at_ 2 (by decide)
    have q3 := hn1.at_ 3 (by decide)
    simp only [hcell] at q0 q1 q2 q3
    have f0 := hn1.free 0
    have f1 := hn1.free 1
    have f2 := hn1.free 2
    have f3 := hn1.free 3
    have HB := hide hbel
    clear hb1 hn1 hbel
    go_wp2_with fail
    refine bodyPost_ret (v := .tuple #[.agg #[.int .i64 0, .int .i64 0, .int .u32 0, .string ⟨#[]⟩], .int .i64 7]) (by simp [results, Tryz.results74, go_sem, q0, q1, q2, q3]) rfl ⟨rfl, ?_⟩
    (repeat first | exact unhide HB | refine Below.drew ?_ | refine Below.alloc ?_ (by simp <;> omega) _ | refine Below.setCell ?_ (by simp <;> omega) _)
  case pos =>
    have d7 : (Ck.sum s.data.toList != 65535) = false := by simpa using h7
    have HE : Hid (parseE s = 0) := by show _ = _; unfold parseE; rw [if_neg h8, if_pos h7]
    have HH : Hid (parseH s = pH s) := parseH_of HE.out
    have hm : s.size ≤ maxLen := by unfold maxLen; omega
    have G0 := hide (fun u => get_any s 0 1 u hm)
    have G1 := hide (fun u => get_any s 1 1 u hm)
    have G4 := hide (fun u => get_any s 4 4 u hm)
    have kw := wrap_u32 _ (got_lo s 4 4) (got_hi4 s 4)
    have HC := hide (fun u => clone_any (s.extract 8 s.size) u (by rw [ByteArray.size_extract]; omega))
    have HP : Hid (pH s = ⟨got s 0 1, got s 1 1, got s 4 4, s.extract 8 s.size⟩) := rfl
    rw [HH.out, HE.out, HP.out]
    have h8' : (8 : Int) ≤ s.size := by omega
    generalize Ck.sum s.data.toList = X at *
    generalize got s 0 1 = x0 at *
    generalize got s 1 1 = x1 at *
    generalize got s 4 4 = x4 at *
    generalize gotB s 0 1 = y0 at *
    generalize gotB s 1 1 = y1 at *
    generalize gotB s 4 4 = y4 at *
    clear h7 h8 HP HH HE
    go_enter Tryz.func74, Tryz.ntmps74
    go_wp2_with fail
    rw [HV.out]
    refine (unhide HSum _).mono ?_
    rintro e w1 ⟨rfl, hb1⟩
    have hn1 := (unhide HN).on hb1 hz
    have hbel := (unhide HA).trans (hb1.mono (Nat.le_of_lt hz))
    have hz1 : w.heap.size < w1.heap.size := Nat.lt_of_lt_of_le hz hb1.size
    have HB := hide hbel
    have HN1 := hide hn1
    clear hb1 hn1 hbel HN HA HV
    go_wp2_with fail
    refine (unhide G0 _).mono ?_
    rintro e w2 ⟨rfl, rfl⟩
    go_wp2_with fail
    refine (unhide G1 _).mono ?_
    rintro e w2 ⟨rfl, rfl⟩
    go_wp2_with fail
    refine (unhide G4 _).mono ?_
    rintro e w2 ⟨rfl, rfl⟩
    go_wp2_with fail
    refine (unhide HC _).mono ?_
    rintro e w3 ⟨rfl, hb3⟩
    have hn3 := (unhide HN1).on hb3 hz1
    have hbel := (unhide HB).trans (hb3.mono (Nat.le_of_lt hz1))
    have q0 := hn3.at_ 0 (by decide)
    have q1 := hn3.at_ 1 (by decide)
    have q2 := hn3.at_ 2 (by decide)
    have q3 := hn3.at_ 3 (by decide)
    simp only [hcell] at q0 q1 q2 q3
    have f0 := hn3.free 0
    have f1 := hn3.free 1
    have f2 := hn3.free 2
    have f3 := hn3.free 3
    have HS := hide (setHd_at ⟨x0, x1, x4, s.extract 8 s.size⟩ hn3.at_)
    have HB := hide (setHd_below hbel w.heap.size ⟨x0, x1, x4, s.extract 8 s.size⟩ (Nat.le_refl _))
    clear hb3 hn3 hbel
    go_wp2_with fail
    have HS := unhide HS
    have HB := unhide HB
    have c0 := HS 0 (by decide)
    have c1 := HS 1 (by decide)
    have c2 := HS 2 (by decide)
    have c3 := HS 3 (by decide)
    simp only [setHd, hcell] at c0 c1 c2 c3 HB
    refine bodyPost_ret (v := .tuple #[.agg #[.int .i64 x0, .int .i64 x1, .int .u32 x4, .string (s.extract 8 s.size)], .int .i64 0]) (by simp [results, Tryz.results74, go_sem, c0, c1, c2, c3]) rfl ⟨rfl, ?_⟩
    exact HB
end Go.Proofs.YtinllnaekcifjaaGreatDoor.Ic
