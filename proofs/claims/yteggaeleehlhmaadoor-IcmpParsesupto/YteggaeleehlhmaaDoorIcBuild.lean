/- What Build of package icmp computes. -/
import Derived.Test.YteggaeleehlhmaaDoorIcKinds
namespace Go.Proofs.YteggaeleehlhmaaDoor
open Go.ChangeShapes Go.WideShapes Go.ChangeAt Go.RowKit

theorem put1_any (n : Int) (w : World) : Calls Tryd.prog 18 #[.int .i64 1, .int .i64 n] w fun e w' => e = .returned (.tuple #[.string (laid 1 n), .bool (inB n)]) ∧ Below w.heap.size w w' := by
  have h := put_any 1 n w
  rw [laidB_one] at h
  exact h
theorem Kept.cells {w W : World} {h : Hd} (k : Kept w h W) : W.cell? ⟨w.heap.size, 0, none⟩ = some (.int .i64 h.kind) ∧ W.cell? ⟨w.heap.size, 1, none⟩ = some (.int .i64 h.code) ∧ W.cell? ⟨w.heap.size, 2, none⟩ = some (.int .u32 h.rest) ∧ W.cell? ⟨w.heap.size, 3, none⟩ = some (.string h.body) :=
  ⟨k.at_ 0 (by decide), k.at_ 1 (by decide), k.at_ 2 (by decide), k.at_ 3 (by decide)⟩

set_option maxRecDepth 100000 in
set_option maxHeartbeats 2000000 in
theorem build_any (h : Hd) (w : World) (hw : h.Wf) :
    Calls Tryd.prog 9 #[h.val] w fun e w' => e = .returned (.tuple #[.string (buildS h), .int .i64 (buildE h)]) ∧ Below w.heap.size w w' := by
  have HW := hide hw
  have HK := hide (kept_new w h 24)
  have HA := hide (put1_any h.kind)
  have HC := hide (put1_any h.code)
  clear hw
  cases ek : inB h.kind with
  | false =>
    have HE : Hid (buildE h = 1) := by show _ = _; unfold buildE; rw [ek]; exact if_pos rfl
    have HS : Hid (buildS h = ⟨#[]⟩) := buildS_no (by rw [HE.out]; decide)
    rw [ek] at HA
    generalize inB h.code = cB at *
    generalize laid 1 h.kind = TA at *
    generalize laid 1 h.code = TB at *
    go_enter Tryd.func9, Tryd.ntmps9
    go_wp2_with fail
    refine (unhide HA _).mono ?_
    rintro e w1 ⟨rfl, hb1⟩
    have hk1 := (unhide HK).on hb1
    obtain ⟨q0, q1, q2, q3⟩ := hk1.cells
    have HK := hide hk1
    clear hb1 hk1
    go_wp2_with fail
    refine (unhide HC _).mono ?_
    rintro e w2 ⟨rfl, hb2⟩
    have hk2 := (unhide HK).on hb2
    have HK := hide hk2
    clear hb2 hk2 q0 q1 q2 q3
    go_wp2_with fail
    go_ret2
    exact ⟨ret_si HS.out.symm HE.out.symm, (unhide HK).below⟩
  | true =>
    rw [ek] at HA
    cases ec : inB h.code with
    | false =>
      have HE : Hid (buildE h = 1) := by show _ = _; unfold buildE; rw [ek, ec]; exact if_pos rfl
      have HS : Hid (buildS h = ⟨#[]⟩) := buildS_no (by rw [HE.out]; decide)
      rw [ec] at HC
      generalize laid 1 h.kind = TA at *
      generalize laid 1 h.code = TB at *
      go_enter Tryd.func9, Tryd.ntmps9
      go_wp2_with fail
      refine (unhide HA _).mono ?_
      rintro e w1 ⟨rfl, hb1⟩
      have hk1 := (unhide HK).on hb1
      obtain ⟨q0, q1, q2, q3⟩ := hk1.cells
      have HK := hide hk1
      clear hb1 hk1
      go_wp2_with fail
      refine (unhide HC _).mono ?_
      rintro e w2 ⟨rfl, hb2⟩
      have hk2 := (unhide HK).on hb2
      have HK := hide hk2
      clear hb2 hk2 q0 q1 q2 q3
      go_wp2_with fail
      go_ret2
      exact ⟨ret_si HS.out.symm HE.out.symm, (unhide HK).below⟩
    | true =>
      rw [ec] at HC
      have hbz := (unhide HW).body
      by_cases hl : 1500 < 8 + (h.body.size : Int)
      case pos =>
        have HE : Hid (buildE h = 18) := by show _ = _; unfold buildE; rw [ek, ec, if_neg (by decide), if_pos hl]
        have HS : Hid (buildS h = ⟨#[]⟩) := buildS_no (by rw [HE.out]; decide)
        have hd : decide (1500 < 8 + (h.body.size : Int)) = true := by simpa using hl
        generalize laid 1 h.kind = TA at *
        generalize laid 1 h.code = TB at *
        go_enter Tryd.func9, Tryd.ntmps9
        go_wp2_with fail
        refine (unhide HA _).mono ?_
        rintro e w1 ⟨rfl, hb1⟩
        have hk1 := (unhide HK).on hb1
        obtain ⟨q0, q1, q2, q3⟩ := hk1.cells
        have HK := hide hk1
        clear hb1 hk1
        go_wp2_with fail
        refine (unhide HC _).mono ?_
        rintro e w2 ⟨rfl, hb2⟩
        have hk2 := (unhide HK).on hb2
        clear q0 q1 q2 q3
        obtain ⟨q0, q1, q2, q3⟩ := hk2.cells
        have HK := hide hk2
        clear hb2 hk2
        go_wp2_with fail
        go_ret2
        exact ⟨ret_si HS.out.symm HE.out.symm, (unhide HK).below⟩
      case neg =>
        have HE : Hid (buildE h = 0) := by show _ = _; unfold buildE; rw [ek, ec, if_neg (by decide), if_neg hl]
        have HS : Hid (buildS h = built h) := buildS_of HE.out
        have hd : decide (1500 < 8 + (h.body.size : Int)) = false := by simpa using hl
        obtain ⟨g, hsz⟩ := good_of HE.out (unhide HW)
        have HZ := hide (put_any 2 0)
        have HR := hide (put_any 4 h.rest)
        rw [laidB_two (by decide) (by decide)] at HZ
        rw [g.rB] at HR
        have r0 := g.r0
        have r1 := g.r1
        have kr := Oct.wraps_i64 h.rest r0 (by omega)
        have hps := pre_size g
        have HCK := hide (fun u => check_any (pre h) u (by omega))
        have HCE : Hid (65535 - Ck.sum (pre h).data.toList = chk h) := rfl
        rw [HCE.out] at HCK
        have HST := hide (fun u => set_any (pre h) 2 2 (chk h) u (by unfold maxLen; omega))
        have hcl := chk_lo h
        have hch := chk_hi h
        have kc := Oct.wraps_i64 (chk h) hcl (by omega)
        have HBE : Hid (set (pre h) 2 2 (chk h) = built h) := rfl
        rw [HBE.out, setB_pre g] at HST
        have HP : Hid (laid 1 h.kind ++ laid 1 h.code ++ laid 2 0 ++ laid 4 h.rest ++ h.body = pre h) := rfl
        have sA := laid_size 1 h.kind
        have sB := laid_size 1 h.code
        have sC := laid_size 2 0
        have sD := laid_size 4 h.rest
        clear g hbz hl
        generalize built h = BU at *
        generalize chk h = CH at *
        generalize laid 1 h.kind = TA at *
        generalize laid 1 h.code = TB at *
        generalize laid 2 0 = TC at *
        generalize laid 4 h.rest = TD at *
        have a1 := add_run TA TB (by omega) (by omega)
        have a2 := add_run (TA ++ TB) TC (by rw [ByteArray.size_append]; omega) (by omega)
        have a3 := add_run (TA ++ TB ++ TC) TD (by rw [ByteArray.size_append, ByteArray.size_append]; omega) (by omega)
        have a4 := add_run (TA ++ TB ++ TC ++ TD) h.body (by rw [ByteArray.size_append, ByteArray.size_append, ByteArray.size_append]; omega) (by omega)
        rw [HP.out] at a4
        clear HP
        generalize pre h = PR at *
        generalize hM3 : TA ++ TB ++ TC ++ TD = M3 at *
        generalize hM2 : TA ++ TB ++ TC = M2 at *
        generalize hM1 : TA ++ TB = M1 at *
        clear hM1 hM2 hM3 sA sB sC sD hps
        go_enter Tryd.func9, Tryd.ntmps9
        go_wp2_with fail
        refine (unhide HA _).mono ?_
        rintro e w1 ⟨rfl, hb1⟩
        have hk1 := (unhide HK).on hb1
        obtain ⟨q0, q1, q2, q3⟩ := hk1.cells
        have HK := hide hk1
        clear hb1 hk1
        go_wp2_with fail
        refine (unhide HC _).mono ?_
        rintro e w2 ⟨rfl, hb2⟩
        have hk2 := (unhide HK).on hb2
        clear q0 q1 q2 q3
        obtain ⟨q0, q1, q2, q3⟩ := hk2.cells
        have HK := hide hk2
        clear hb2 hk2
        go_wp2_with fail
        refine (unhide HZ _).mono ?_
        rintro e w3 ⟨rfl, hb3⟩
        have hk3 := (unhide HK).on hb3
        clear q0 q1 q2 q3
        obtain ⟨q0, q1, q2, q3⟩ := hk3.cells
        have HK := hide hk3
        clear hb3 hk3
        go_wp2_with fail
        refine (unhide HR _).mono ?_
        rintro e w4 ⟨rfl, hb4⟩
        have hk4 := (unhide HK).on hb4
        clear q0 q1 q2 q3
        obtain ⟨q0, q1, q2, q3⟩ := hk4.cells
        have HK := hide hk4
        clear hb4 hk4
        go_wp2_with fail
        refine (unhide HCK _).mono ?_
        rintro e w5 ⟨rfl, hb5⟩
        have hk5 := (unhide HK).on hb5
        have HK := hide hk5
        clear q0 q1 q2 q3 hb5 hk5
        go_wp2_with fail
        refine (unhide HST _).mono ?_
        rintro e w6 ⟨rfl, hb6⟩
        have hk6 := (unhide HK).on hb6
        have HK := hide hk6
        clear hb6 hk6
        go_wp2_with fail
        go_ret2
        exact ⟨ret_si HS.out.symm HE.out.symm, (unhide HK).below⟩
end Go.Proofs.YteggaeleehlhmaaDoor
