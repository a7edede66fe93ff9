/- Contracts and mathematics of the layers below (IcKinds, IcBuild, IcParse). -/
import Derived.Test.YtpjaajeojiaeiaaGreatDoorIcA
import Derived.Test.YtpjaajeojiaeiaaGreatDoorCl
/- What Error and MTU of package icmp compute, and the reference's: one contract a function. -/
namespace Go.Proofs.YtpjaajeojiaeiaaGreatDoor.Ic
open Go.ChangeShapes Go.WideShapes Go.ChangeAt Go.RowKit

set_option maxHeartbeats 1000000 in
theorem error_any (k : Int) (w : World) (hE : Env w) :
  Calls Tryz.prog 114 #[.int .i64 k] w fun e w' => e = .returned (.bool (errB k)) ∧ Below w.heap.size w w' := by
 obtain ⟨⟨b0, b1⟩, ⟨c0, c1⟩, ⟨d0, d1⟩⟩ := hE.alloc (.cells #[.int .i64 k, .int .i64 0] 182)
 clear hE
 have HB := hide (alloc_on w (.cells #[.int .i64 k, .int .i64 0] 182))
 have HR : Hid (errB k = ((k == 3) || (k == 11) || (k == 12))) := rfl
 generalize errB k = R at *
 cases h3 : k == 3 with
 | true =>
  go_enter Tryz.func114, Tryz.ntmps114
  go_wp2
  go_ret
  exact ⟨ret_bool (by rw [HR.out, h3]; rfl), unhide HB⟩
 | false =>
  cases h11 : k == 11 with
  | true =>
   go_enter Tryz.func114, Tryz.ntmps114
   go_wp2
   go_ret
   exact ⟨ret_bool (by rw [HR.out, h3, h11]; rfl), unhide HB⟩
  | false =>
   cases h12 : k == 12 with
   | true =>
    go_enter Tryz.func114, Tryz.ntmps114
    go_wp2
    go_ret
    exact ⟨ret_bool (by rw [HR.out, h3, h11, h12]; rfl), unhide HB⟩
   | false =>
    go_enter Tryz.func114, Tryz.ntmps114
    go_wp2
    go_ret
    exact ⟨ret_bool (by rw [HR.out, h3, h11, h12]; rfl), unhide HB⟩

set_option maxHeartbeats 400000 in
theorem rerror_any (k : Int) (w : World) :
  Calls Tryz.prog 127 #[.int .i64 k] w fun e w' => e = .returned (.bool (errB k)) ∧ w' = w := by
 have HR : Hid (errB k = ((k == 3) || (k == 11) || (k == 12))) := rfl
 generalize errB k = R at *
 cases h3 : k == 3 with
 | true =>
  go_enter Tryz.func127, Tryz.ntmps127
  go_wp2
  go_ret
  exact ⟨ret_bool (by rw [HR.out, h3]; rfl), rfl⟩
 | false =>
  cases h11 : k == 11 with
  | true =>
   go_enter Tryz.func127, Tryz.ntmps127
   go_wp2
   go_ret
   exact ⟨ret_bool (by rw [HR.out, h3, h11]; rfl), rfl⟩
  | false =>
   go_enter Tryz.func127, Tryz.ntmps127
   go_wp2
   go_ret
   exact ⟨ret_bool (by rw [HR.out, h3, h11]; simp), rfl⟩

end Go.Proofs.YtpjaajeojiaeiaaGreatDoor.Ic

/- What Build of package icmp computes. -/
namespace Go.Proofs.YtpjaajeojiaeiaaGreatDoor.Ic
open Go.ChangeShapes Go.WideShapes Go.ChangeAt Go.RowKit

theorem put1_any (n : Int) (w : World) : Calls Tryz.prog 80 #[.int .i64 1, .int .i64 n] w fun e w' => e = .returned (.tuple #[.string (laid 1 n), .bool (inB n)]) ∧ Below w.heap.size w w' := by
 have h := put_any 1 n w
 rw [laidB_one] at h
 exact h
theorem Kept.cells {w W : World} {h : Hd} (k : Kept w h W) : W.cell? ⟨w.heap.size, 0, none⟩ = some (.int .i64 h.kind) ∧ W.cell? ⟨w.heap.size, 1, none⟩ = some (.int .i64 h.code) ∧ W.cell? ⟨w.heap.size, 2, none⟩ = some (.int .u32 h.rest) ∧ W.cell? ⟨w.heap.size, 3, none⟩ = some (.string h.body) :=
 ⟨k.at_ 0 (by decide), k.at_ 1 (by decide), k.at_ 2 (by decide), k.at_ 3 (by decide)⟩

set_option maxRecDepth 100000 in
set_option maxHeartbeats 2000000 in
theorem build_any (h : Hd) (w : World) (hw : h.Wf) :
  Calls Tryz.prog 60 #[h.val] w fun e w' => e = .returned (.tuple #[.string (buildS h), .int .i64 (buildE h)]) ∧ Below w.heap.size w w' := by
 have HW := hide hw
 have HK := hide (kept_new w h 103)
 have HA := hide (put1_any h.kind)
 have HC := hide (put1_any h.code)
 clear hw
 cases ek : inB h.kind with
 | false =>
  have HE : Hid (buildE h = 1) := by show _ = _; unfold buildE; rw [ek]; exact if_pos rfl
  have HS : Hid (buildS h = ⟨#[]⟩) := buildS_no (by rw [HE.out]; decide)
  rw [ek] at HA
  generalize inB h.code = cB at *
  generalize laid 1 h.kind = TA at *
  generalize laid 1 h.code = TB at *
  go_enter Tryz.func60, Tryz.ntmps60
  go_wp2_with fail
  refine (unhide HA _).mono ?_
  rintro e w1 ⟨rfl, hb1⟩
  have hk1 := (unhide HK).on hb1
  obtain ⟨q0, q1, q2, q3⟩ := hk1.cells
  have HK := hide hk1
  clear hb1 hk1
  go_wp2_with fail
  refine (unhide HC _).mono ?_
  rintro e w2 ⟨rfl, hb2⟩
  have hk2 := (unhide HK).on hb2
  have HK := hide hk2
  clear hb2 hk2 q0 q1 q2 q3
  go_wp2_with fail
  go_ret2
  exact ⟨ret_si HS.out.symm HE.out.symm, (unhide HK).below⟩
 | true =>
  rw [ek] at HA
  cases ec : inB h.code with
  | false =>
   have HE : Hid (buildE h = 1) := by show _ = _; unfold buildE; rw [ek, ec]; exact if_pos rfl
   have HS : Hid (buildS h = ⟨#[]⟩) := buildS_no (by rw [HE.out]; decide)
   rw [ec] at HC
   generalize laid 1 h.kind = TA at *
   generalize laid 1 h.code = TB at *
   go_enter Tryz.func60, Tryz.ntmps60
   go_wp2_with fail
   refine (unhide HA _).mono ?_
   rintro e w1 ⟨rfl, hb1⟩
   have hk1 := (unhide HK).on hb1
   obtain ⟨q0, q1, q2, q3⟩ := hk1.cells
   have HK := hide hk1
   clear hb1 hk1
   go_wp2_with fail
   refine (unhide HC _).mono ?_
   rintro e w2 ⟨rfl, hb2⟩
   have hk2 := (unhide HK).on hb2
   have HK := hide hk2
   clear hb2 hk2 q0 q1 q2 q3
   go_wp2_with fail
   go_ret2
   exact ⟨ret_si HS.out.symm HE.out.symm, (unhide HK).below⟩
  | true =>
   rw [ec] at HC
   have hbz := (unhide HW).body
   by_cases hl : 1500 < 8 + (h.body.size : Int)
   case pos =>
    have HE : Hid (buildE h = 18) := by show _ = _; unfold buildE; rw [ek, ec, if_neg (by decide), if_pos hl]
    have HS : Hid (buildS h = ⟨#[]⟩) := buildS_no (by rw [HE.out]; decide)
    have hd : decide (1500 < 8 + (h.body.size : Int)) = true := by simpa using hl
    generalize laid 1 h.kind = TA at *
    generalize laid 1 h.code = TB at *
    go_enter Tryz.func60, Tryz.ntmps60
    go_wp2_with fail
    refine (unhide HA _).mono ?_
    rintro e w1 ⟨rfl, hb1⟩
    have hk1 := (unhide HK).on hb1
    obtain ⟨q0, q1, q2, q3⟩ := hk1.cells
    have HK := hide hk1
    clear hb1 hk1
    go_wp2_with fail
    refine (unhide HC _).mono ?_
    rintro e w2 ⟨rfl, hb2⟩
    have hk2 := (unhide HK).on hb2
    clear q0 q1 q2 q3
    obtain ⟨q0, q1, q2, q3⟩ := hk2.cells
    have HK := hide hk2
    clear hb2 hk2
    go_wp2_with fail
    go_ret2
    exact ⟨ret_si HS.out.symm HE.out.symm, (unhide HK).below⟩
   case neg =>
    have HE : Hid (buildE h = 0) := by show _ = _; unfold buildE; rw [ek, ec, if_neg (by decide), if_neg hl]
    have HS : Hid (buildS h = built h) := buildS_of HE.out
    have hd : decide (1500 < 8 + (h.body.size : Int)) = false := by simpa using hl
    obtain ⟨g, hsz⟩ := good_of HE.out (unhide HW)
    have HZ := hide (put_any 2 0)
    have HR := hide (put_any 4 h.rest)
    rw [laidB_two (by decide) (by decide)] at HZ
    rw [g.rB] at HR
    have r0 := g.r0
    have r1 := g.r1
    have kr := Oct.wraps_i64 h.rest r0 (by omega)
    have hps := pre_size g
    have HCK := hide (fun u => check_any (pre h) u (by omega))
    have HCE : Hid (65535 - Ck.sum (pre h).data.toList = chk h) := rfl
    rw [HCE.out] at HCK
    have HST := hide (fun u => set_any (pre h) 2 2 (chk h) u (by unfold maxLen; omega))
    have hcl := chk_lo h
    have hch := chk_hi h
    have kc := Oct.wraps_i64 (chk h) hcl (by omega)
    have HBE : Hid (set (pre h) 2 2 (chk h) = built h) := rfl
    rw [HBE.out, setB_pre g] at HST
    have HP : Hid (laid 1 h.kind ++ laid 1 h.code ++ laid 2 0 ++ laid 4 h.rest ++ h.body = pre h) := rfl
    have sA := laid_size 1 h.kind
    have sB := laid_size 1 h.code
    have sC := laid_size 2 0
    have sD := laid_size 4 h.rest
    clear g hbz hl
    generalize built h = BU at *
    generalize chk h = CH at *
    generalize laid 1 h.kind = TA at *
    generalize laid 1 h.code = TB at *
    generalize laid 2 0 = TC at *
    generalize laid 4 h.rest = TD at *
    have a1 := add_run TA TB (by omega) (by omega)
    have a2 := add_run (TA ++ TB) TC (by rw [ByteArray.size_append]; omega) (by omega)
    have a3 := add_run (TA ++ TB ++ TC) TD (by rw [ByteArray.size_append, ByteArray.size_append]; omega) (by omega)
    have a4 := add_run (TA ++ TB ++ TC ++ TD) h.body (by rw [ByteArray.size_append, ByteArray.size_append, ByteArray.size_append]; omega) (by omega)
    rw [HP.out] at a4
    clear HP
    generalize pre h = PR at *
    generalize hM3 : TA ++ TB ++ TC ++ TD = M3 at *
    generalize hM2 : TA ++ TB ++ TC = M2 at *
    generalize hM1 : TA ++ TB = M1 at *
    clear hM1 hM2 hM3 sA sB sC sD hps
    go_enter Tryz.func60, Tryz.ntmps60
    go_wp2_with fail
    refine (unhide HA _).mono ?_
    rintro e w1 ⟨rfl, hb1⟩
    have hk1 := (unhide HK).on hb1
    obtain ⟨q0, q1, q2, q3⟩ := hk1.cells
    have HK := hide hk1
    clear hb1 hk1
    go_wp2_with fail
    refine (unhide HC _).mono ?_
    rintro e w2 ⟨rfl, hb2⟩
    have hk2 := (unhide HK).on hb2
    clear q0 q1 q2 q3
    obtain ⟨q0, q1, q2, q3⟩ := hk2.cells
    have HK := hide hk2
    clear hb2 hk2
    go_wp2_with fail
    refine (unhide HZ _).mono ?_
    rintro e w3 ⟨rfl, hb3⟩
    have hk3 := (unhide HK).on hb3
    clear q0 q1 q2 q3
    obtain ⟨q0, q1, q2, q3⟩ := hk3.cells
    have HK := hide hk3
    clear hb3 hk3
    go_wp2_with fail
    refine (unhide HR _).mono ?_
    rintro e w4 ⟨rfl, hb4⟩
    have hk4 := (unhide HK).on hb4
    clear q0 q1 q2 q3
    obtain ⟨q0, q1, q2, q3⟩ := hk4.cells
    have HK := hide hk4
    clear hb4 hk4
    go_wp2_with fail
    refine (unhide HCK _).mono ?_
    rintro e w5 ⟨rfl, hb5⟩
    have hk5 := (unhide HK).on hb5
    have HK := hide hk5
    clear q0 q1 q2 q3 hb5 hk5
    go_wp2_with fail
    refine (unhide HST _).mono ?_
    rintro e w6 ⟨rfl, hb6⟩
    have hk6 := (unhide HK).on hb6
    have HK := hide hk6
    clear hb6 hk6
    go_wp2_with fail
    go_ret2
    exact ⟨ret_si HS.out.symm HE.out.symm, (unhide HK).below⟩
end Go.Proofs.YtpjaajeojiaeiaaGreatDoor.Ic

/- What Parse of package icmp computes. -/
namespace Go.Proofs.YtpjaajeojiaeiaaGreatDoor.Ic
open Go.ChangeShapes Go.WideShapes Go.ChangeAt Go.RowKit

theorem got_hi1 (s : ByteArray) (p : Int) : got s p 1 ≤ 255 := by have := got_lt s p 1; simp at this; omega
set_option maxRecDepth 100000 in
set_option maxHeartbeats 2000000 in
theorem parse_any (s : ByteArray) (w : World) (hs : s.size ≤ 281474976710656) :
  Calls Tryz.prog 58 #[.string s] w fun e w' => e = .returned (.tuple #[(parseH s).val, .int .i64 (parseE s)]) ∧ Below w.heap.size w w' := by
 by_cases h8 : s.size < 8
 case pos =>
  have d8 : decide ((s.size : Int) < 8) = true := by simp; omega
  have HE : Hid (parseE s = 2) := by show _ = _; unfold parseE; rw [if_pos h8]
  have HH : Hid (parseH s = zeroHd) := parseH_no (by rw [HE.out]; decide)
  rw [HH.out, HE.out]
  go_enter Tryz.func58, Tryz.ntmps58
  go_wp2_with fail
  refine bodyPost_ret (v := .tuple #[.agg #[.int .i64 0, .int .i64 0, .int .u32 0, .string ⟨#[]⟩], .int .i64 2]) (by simp [results, Tryz.results58, go_sem]) rfl ⟨rfl, ?_⟩
  (repeat first | exact Below.refl _ _ | refine Below.drew ?_ | refine Below.alloc ?_ (by simp <;> omega) _ | refine Below.setCell ?_ (by simp <;> omega) _)
 case neg =>
 have d8 : decide ((s.size : Int) < 8) = false := by simp; omega
 have HSum := hide (fun u => sum_any s u hs)
 have hN := newHd w zeroHd 103
 have hA := alloc_on w (.cells #[.int .i64 0, .int .i64 0, .int .u32 0, .string ⟨#[]⟩] 103)
 simp only [zeroHd] at hN
 have hz : w.heap.size < (w.alloc (.cells #[.int .i64 0, .int .i64 0, .int .u32 0, .string ⟨#[]⟩] 103)).heap.size := by simp
 generalize hV : w.alloc (.cells #[.int .i64 0, .int .i64 0, .int .u32 0, .string ⟨#[]⟩] 103) = V at *
 have HV := hide hV
 have HN := hide hN
 have HA := hide hA
 clear hV hN hA
 by_cases h7 : Ck.sum s.data.toList = 65535
 case neg =>
  have d7 : (Ck.sum s.data.toList != 65535) = true := by simpa using h7
  have HE : Hid (parseE s = 7) := by show _ = _; unfold parseE; rw [if_neg h8, if_neg h7]
  have HH : Hid (parseH s = zeroHd) := parseH_no (by rw [HE.out]; decide)
  rw [HH.out, HE.out]
  generalize Ck.sum s.data.toList = X at *
  clear h7 h8
  go_enter Tryz.func58, Tryz.ntmps58
  go_wp2_with fail
  rw [HV.out]
  refine (unhide HSum _).mono ?_
  rintro e w1 ⟨rfl, hb1⟩
  have hn1 := (unhide HN).on hb1 hz
  have hbel := (unhide HA).trans (hb1.mono (Nat.le_of_lt hz))
  have q0 := hn1.at_ 0 (by decide)
  have q1 := hn1.at_ 1 (by decide)
  have q2 := hn1.at_ 2 (by decide)
  have q3 := hn1.at_ 3 (by decide)
  simp only [hcell] at q0 q1 q2 q3
  have f0 := hn1.free 0
  have f1 := hn1.free 1
  have f2 := hn1.free 2
  have f3 := hn1.free 3
  have HB := hide hbel
  clear hb1 hn1 hbel
  go_wp2_with fail
  refine bodyPost_ret (v := .tuple #[.agg #[.int .i64 0, .int .i64 0, .int .u32 0, .string ⟨#[]⟩], .int .i64 7]) (by simp [results, Tryz.results58, go_sem, q0, q1, q2, q3]) rfl ⟨rfl, ?_⟩
  (repeat first | exact unhide HB | refine Below.drew ?_ | refine Below.alloc ?_ (by simp <;> omega) _ | refine Below.setCell ?_ (by simp <;> omega) _)
 case pos =>
  have d7 : (Ck.sum s.data.toList != 65535) = false := by simpa using h7
  have HE : Hid (parseE s = 0) := by show _ = _; unfold parseE; rw [if_neg h8, if_pos h7]
  have HH : Hid (parseH s = pH s) := parseH_of HE.out
  have hm : s.size ≤ maxLen := by unfold maxLen; omega
  have G0 := hide (fun u => get_any s 0 1 u hm)
  have G1 := hide (fun u => get_any s 1 1 u hm)
  have G4 := hide (fun u => get_any s 4 4 u hm)
  have kw := wrap_u32 _ (got_lo s 4 4) (got_hi4 s 4)
  have HC := hide (fun u => clone_any (s.extract 8 s.size) u (by rw [ByteArray.size_extract]; omega))
  have HP : Hid (pH s = ⟨got s 0 1, got s 1 1, got s 4 4, s.extract 8 s.size⟩) := rfl
  rw [HH.out, HE.out, HP.out]
  have h8' : (8 : Int) ≤ s.size := by omega
  generalize Ck.sum s.data.toList = X at *
  generalize got s 0 1 = x0 at *
  generalize got s 1 1 = x1 at *
  generalize got s 4 4 = x4 at *
  generalize gotB s 0 1 = y0 at *
  generalize gotB s 1 1 = y1 at *
  generalize gotB s 4 4 = y4 at *
  clear h7 h8 HP HH HE
  go_enter Tryz.func58, Tryz.ntmps58
  go_wp2_with fail
  rw [HV.out]
  refine (unhide HSum _).mono ?_
  rintro e w1 ⟨rfl, hb1⟩
  have hn1 := (unhide HN).on hb1 hz
  have hbel := (unhide HA).trans (hb1.mono (Nat.le_of_lt hz))
  have hz1 : w.heap.size < w1.heap.size := Nat.lt_of_lt_of_le hz hb1.size
  have HB := hide hbel
  have HN1 := hide hn1
  clear hb1 hn1 hbel HN HA HV
  go_wp2_with fail
  refine (unhide G0 _).mono ?_
  rintro e w2 ⟨rfl, rfl⟩
  go_wp2_with fail
  refine (unhide G1 _).mono ?_
  rintro e w2 ⟨rfl, rfl⟩
  go_wp2_with fail
  refine (unhide G4 _).mono ?_
  rintro e w2 ⟨rfl, rfl⟩
  go_wp2_with fail
  refine (unhide HC _).mono ?_
  rintro e w3 ⟨rfl, hb3⟩
  have hn3 := (unhide HN1).on hb3 hz1
  have hbel := (unhide HB).trans (hb3.mono (Nat.le_of_lt hz1))
  have q0 := hn3.at_ 0 (by decide)
  have q1 := hn3.at_ 1 (by decide)
  have q2 := hn3.at_ 2 (by decide)
  have q3 := hn3.at_ 3 (by decide)
  simp only [hcell] at q0 q1 q2 q3
  have f0 := hn3.free 0
  have f1 := hn3.free 1
  have f2 := hn3.free 2
  have f3 := hn3.free 3
  have HS := hide (setHd_at ⟨x0, x1, x4, s.extract 8 s.size⟩ hn3.at_)
  have HB := hide (setHd_below hbel w.heap.size ⟨x0, x1, x4, s.extract 8 s.size⟩ (Nat.le_refl _))
  clear hb3 hn3 hbel
  go_wp2_with fail
  have HS := unhide HS
  have HB := unhide HB
  have c0 := HS 0 (by decide)
  have c1 := HS 1 (by decide)
  have c2 := HS 2 (by decide)
  have c3 := HS 3 (by decide)
  simp only [setHd, hcell] at c0 c1 c2 c3 HB
  refine bodyPost_ret (v := .tuple #[.agg #[.int .i64 x0, .int .i64 x1, .int .u32 x4, .string (s.extract 8 s.size)], .int .i64 0]) (by simp [results, Tryz.results58, go_sem, c0, c1, c2, c3]) rfl ⟨rfl, ?_⟩
  exact HB
end Go.Proofs.YtpjaajeojiaeiaaGreatDoor.Ic
