/- CksumChanges answers true for every text that may be in memory, every place and every number of 32 bits, and changes nothing that was there before. -/
import Derived.Test.YthhhedpnofommaaRows
import Derived.OpenShut
import Derived.ShutString
import Derived.ChangeOld
import Derived.Below
import Derived.SizedLaws
import Derived.Test.YthhhedpnofommaaCkEx
import Derived.Test.YthhhedpnofommaaCkChg
namespace Go.Proofs.Ythhhedpnofommaa.cksumChanges
open Go.ChangeShapes Go.WideShapes Go.ChangeAt Go.RowKit
open Go.ChangeMaps (open_string shut_string)
set_option linter.unusedVariables false
set_option maxHeartbeats 1000000 in
theorem walk_short (w : World) (a0 : ByteArray) (a1 a2 : Int) (hs : (a0.size : Int) < 4) :
    Calls Try.prog 6 #[.string a0, .int .i64 a1, .int .u32 a2] w fun e w' => e = .returned (.bool true) ∧ Below w.heap.size w w' := by
  go_enter Try.func6, Try.ntmps6
  go_wp2_with fail
  refine (examples_ok _).mono ?_
  rintro e w1 ⟨rfl, hb1⟩
  have HB := hide hb1
  clear hb1
  go_wp2_with fail
  go_ret
  exact ⟨rfl, unhide HB⟩
set_option maxHeartbeats 20000000 in
set_option maxRecDepth 100000 in
theorem walk (w : World) (a0 : ByteArray) (a1 : Int) (a2 : Int) (z0 : a0.size ≤ 140737488355328) (w1 : (Lit.int .i64 a1).wf = true) (w2 : (Lit.int .u32 a2).wf = true) :
    Calls Try.prog 6 #[.string a0, .int .i64 a1, .int .u32 a2] w fun e w' => e = .returned (.bool true) ∧ Below w.heap.size w w' := by
  obtain ⟨b0, b1⟩ := i64_bounds w1
  obtain ⟨d0, d1⟩ := u32_bounds w2
  by_cases hs4 : (a0.size : Int) < 4
  · exact walk_short w a0 a1 a2 hs4
  have hA := at_any a1 (a0.size - 4) (a0.size - 3) (by omega) (by omega) (by omega)
  rw [show ((a0.size - 3 : Nat) : Int) = (a0.size : Int) - 3 from by omega] at hA
  have hl := Oct.len_eq a0
  rcases hA with ⟨hn, k, hk, k0, k1, k2⟩ | ⟨hn, k, hk, k0, k1, k2⟩
  all_goals
    go_enter Try.func6, Try.ntmps6
    go_wp2_with fail
    refine (examples_ok _).mono ?_
    rintro e w1 ⟨rfl, hb1⟩
    have HB := hide hb1
    clear hb1
    obtain ⟨c, W2, hconv, hb2, hbt⟩ := conv_bytes a0 w1
    have HB2 := hide (Below.then (unhide HB) hb2)
    have HT := hide hbt
    have HG := hide (unhide HB).size
    have c0 := (hbt k (by omega)).1
    have c1 := (hbt (k + 1) (by omega)).1
    have c2 := (hbt (k + 2) (by omega)).1
    have c3 := (hbt (k + 3) (by omega)).1
    generalize hx0 : a0.data.toList.getD k 0 = x0 at c0
    generalize hx1 : a0.data.toList.getD (k + 1) 0 = x1 at c1
    generalize hx2 : a0.data.toList.getD (k + 2) 0 = x2 at c2
    generalize hx3 : a0.data.toList.getD (k + 3) 0 = x3 at c3
    have X0 := hide hx0
    have X1 := hide hx1
    have X2 := hide hx2
    have X3 := hide hx3
    have y0 : (x0.toNat : Int) < 256 := by have := x0.toNat_lt; omega
    have y1 : (x1.toNat : Int) < 256 := by have := x1.toNat_lt; omega
    have y2 : (x2.toNat : Int) < 256 := by have := x2.toNat_lt; omega
    have y3 : (x3.toNat : Int) < 256 := by have := x3.toNat_lt; omega
    have i0 : (k : Int) < a0.size := by omega
    have i1 : (k : Int) + 1 < a0.size := by omega
    have i2 : (k : Int) + 2 < a0.size := by omega
    have i3 : (k : Int) + 3 < a0.size := by omega
    clear hb2 HB hbt hx0 hx1 hx2 hx3
    go_wp2_with fail
    have ho := or_four x0.toNat x1.toNat x2.toNat x3.toNat (by omega) y0 (by omega) y1 (by omega) y2 (by omega) y3
    generalize hoo : (x0.toNat : Int) * 16777216 + x1.toNat * 65536 + x2.toNat * 256 + x3.toNat = o at ho
    have o0 : 0 ≤ o := by omega
    have o1 : o ≤ 4294967295 := by omega
    have OH := hide (show o / 65536 = x0.toNat * 256 + x1.toNat by omega)
    have OL := hide (show o % 65536 = x2.toNat * 256 + x3.toNat by omega)
    clear hoo
    go_quiet ((fail))
    clear c0 c1 c2 c3 hconv ho y0 y1 y2 y3
    go_wp2_with fail
    refine (check_any _ _ (by omega)).mono ?_
    rintro e W3 ⟨rfl, hb3⟩
    have hB3 := Below.then (below_drewN (unhide HB2) nq) hb3
    have hT3 := ((unhide HT).drewN nq).on hb3
    have HB3 := hide hB3
    have HT3 := hide hT3
    have c0 := (hT3 k (by omega)).1
    have c1 := (hT3 (k + 1) (by omega)).1
    have f0 := (hT3 k (by omega)).2
    have f1 := (hT3 (k + 1) (by omega)).2
    obtain ⟨was, hwas⟩ : ∃ was, 65535 - Ck.sum a0.data.toList = was := ⟨_, rfl⟩
    have q0 : 0 ≤ was := by have := Ck.sum_hi a0.data.toList; omega
    have q1 : was ≤ 65535 := by have := Ck.sum_lo a0.data.toList; omega
    rw [hwas]
    have HW := hide hwas
    clear hB3 HT HB2 hwas hb3
    have L1len : a0.data.toList.length = a0.size := hl
    have hU1 := (hT3.set k (by omega) (a2 / 16777216) (by omega) (by omega)).set (k + 1) (by rw [List.length_set]; omega) (a2 / 65536 % 256) (by omega) (by omega)
    obtain ⟨L1, hL1⟩ : ∃ L1, (a0.data.toList.set k (UInt8.ofNat (a2 / 16777216).toNat)).set (k + 1) (UInt8.ofNat (a2 / 65536 % 256).toNat) = L1 := ⟨_, rfl⟩
    rw [hL1] at hU1
    have l1 : L1.length = a0.size := by rw [← hL1]; simp
    have t1 := hU1.text c
    rw [l1] at t1
    have HU1 := hide hU1
    have HL1 := hide hL1
    have n1 : (ByteArray.mk L1.toArray).size = a0.size := by rw [Oct.mk_size, l1]
    clear hT3 hU1 hL1
    obtain ⟨u1, hu1⟩ : ∃ u, Ck.upd was (o / 65536) (a2 / 65536) = u := ⟨_, rfl⟩
    have HV1 := hide hu1
    clear hu1
    have ww := W3
    go_wp2_with fail
    refine (update_any _ _ _ _ q0 q1 (by omega) (by omega) (by omega) (by omega)).mono ?_
    rintro e W4 ⟨rfl, hb4⟩
    rw [unhide HV1]
    have hB4 := ((((unhide HB3).setCell (p := ⟨w1.heap.size, k, none⟩) (unhide HG) (.int .u8 (a2 / 16777216))).setCell (p := ⟨w1.heap.size, k + 1, none⟩) (unhide HG) (.int .u8 (a2 / 65536 % 256)))).trans (hb4.mono (by have := (unhide HB3).size; simp [World.setCell]; exact this))
    have hT4 := (unhide HU1).on hb4
    have HB4 := hide hB4
    have c2 := (hT4 (k + 2) (by omega)).1
    have c3 := (hT4 (k + 3) (by omega)).1
    have f2 := (hT4 (k + 2) (by omega)).2
    have f3 := (hT4 (k + 3) (by omega)).2
    have hU2 := (hT4.set (k + 2) (by omega) (a2 / 256 % 256) (by omega) (by omega)).set (k + 3) (by rw [List.length_set]; omega) (a2 % 256) (by omega) (by omega)
    obtain ⟨L2, hL2⟩ : ∃ L2, (L1.set (k + 2) (UInt8.ofNat (a2 / 256 % 256).toNat)).set (k + 3) (UInt8.ofNat (a2 % 256).toNat) = L2 := ⟨_, rfl⟩
    rw [hL2] at hU2
    have l2 : L2.length = a0.size := by rw [← hL2]; simp; exact l1
    have t2 := hU2.text c
    rw [l2] at t2
    have HL2 := hide hL2
    have n2 : (ByteArray.mk L2.toArray).size = a0.size := by rw [Oct.mk_size, l2]
    have HB5 := hide (((unhide HB4).setCell (p := ⟨w1.heap.size, k + 2, none⟩) (unhide HG) (.int .u8 (a2 / 256 % 256))).setCell (p := ⟨w1.heap.size, k + 3, none⟩) (unhide HG) (.int .u8 (a2 % 256)))
    clear c0 c1 f0 f1 t1 hb4 hB4 hT4 hU2 hL2 HB4 HU1 HB3
    obtain ⟨h1, h2, h3⟩ := facts a0.data.toList L1 L2 k o a2 was u1 (by omega) k2 d0 d1 o0 o1 (by rw [unhide X0, unhide X1]; exact unhide OH) (by rw [unhide X2, unhide X3]; exact unhide OL) (unhide HW) (unhide HV1) (unhide HL1) (unhide HL2)
    obtain ⟨s1, hs1⟩ : ∃ s, 65535 - Ck.sum L1 = s := ⟨_, rfl⟩
    obtain ⟨s2, hs2⟩ : ∃ s, 65535 - Ck.sum L2 = s := ⟨_, rfl⟩
    obtain ⟨u2, hu2⟩ : ∃ u, Ck.upd u1 (o % 65536) (a2 % 65536) = u := ⟨_, rfl⟩
    rw [hs1] at h1
    rw [hs2, hu2] at h2
    have S1 : Hid (65535 - Ck.sum (ByteArray.mk L1.toArray).data.toList = s1) := hs1
    have S2 : Hid (65535 - Ck.sum (ByteArray.mk L2.toArray).data.toList = s2) := hs2
    have V2 : Hid (Ck.upd (Ck.upd was (o / 65536) (a2 / 65536)) (o % 65536) (a2 % 65536) = u2) := by show _ = _; rw [unhide HV1]; exact hu2
    obtain ⟨e0, he0⟩ : ∃ b, zeros a0.data.toList = b := ⟨_, rfl⟩
    obtain ⟨e1, he1⟩ : ∃ b, zeros L1 = b := ⟨_, rfl⟩
    obtain ⟨e2, he2⟩ : ∃ b, zeros L2 = b := ⟨_, rfl⟩
    rw [he0] at h3
    rw [he1] at h1 h2
    rw [he2] at h2
    have E0 := hide he0
    have E1 : Hid (zeros (ByteArray.mk L1.toArray).data.toList = e1) := he1
    have E2 : Hid (zeros (ByteArray.mk L2.toArray).data.toList = e2) := he2
    clear hs1 hs2 hu2 he0 he1 he2 HV1 HL1 HL2 HW
    have hq : ((u1 == s1) = true ∧ (u2 == s2) = true) ∨ ((u1 == s1) = false ∧ e1 = true ∧ (u2 == s2) = true) ∨ ((u1 == s1) = true ∧ (u2 == s2) = false ∧ e1 = true) ∨ ((u1 == s1) = false ∧ e1 = true ∧ (u2 == s2) = false) ∨ ((u1 == s1) = true ∧ (u2 == s2) = false ∧ e1 = false ∧ e2 = true) := by
      have p1 : (u1 == s1) = decide (u1 = s1) := by by_cases h : u1 = s1 <;> simp [h]
      have p2 : (u2 == s2) = decide (u2 = s2) := by by_cases h : u2 = s2 <;> simp [h]
      rw [p1, p2]
      by_cases g1 : u1 = s1 <;> by_cases g2 : u2 = s2 <;> cases e1 <;> cases e2 <;> simp [g1, g2] at h1 h2 ⊢
    have H3 := hide h3
    clear h1 h2 h3
    go_wp2_with fail
    rcases hq with ⟨g1, g2⟩ | ⟨g1, rfl, g2⟩ | ⟨g1, g2, rfl⟩ | ⟨g1, rfl, g2⟩ | ⟨g1, g2, rfl, rfl⟩
    · cases e0 with
      | true =>
        refine (check_any _ _ (by rw [n1]; omega)).mono ?_
        rintro e Y1 ⟨rfl, hb1⟩
        rw [unhide S1]
        have HB5 := hide (Below.then (unhide HB5) hb1)
        clear hb1
        go_wp2_with fail
        refine (update32_any _ _ _ _ q0 q1 o0 o1 d0 d1).mono ?_
        rintro e Y2 ⟨rfl, hb2⟩
        rw [unhide V2]
        have HB5 := hide (Below.then (unhide HB5) hb2)
        clear hb2
        go_wp2_with fail
        refine (check_any _ _ (by rw [n2]; omega)).mono ?_
        rintro e Y3 ⟨rfl, hb3⟩
        rw [unhide S2]
        have HB5 := hide (Below.then (unhide HB5) hb3)
        clear hb3
        go_wp2_with fail
        refine (empty_any _ _ (by omega)).mono ?_
        rintro e Y4 ⟨rfl, rfl⟩
        rw [unhide E0]
        go_wp2_with fail
        go_ret
        exact ⟨rfl, unhide HB5⟩
      | false =>
        refine (check_any _ _ (by rw [n1]; omega)).mono ?_
        rintro e Y5 ⟨rfl, hb1⟩
        rw [unhide S1]
        have HB5 := hide (Below.then (unhide HB5) hb1)
        clear hb1
        go_wp2_with fail
        refine (update32_any _ _ _ _ q0 q1 o0 o1 d0 d1).mono ?_
        rintro e Y6 ⟨rfl, hb2⟩
        rw [unhide V2]
        have HB5 := hide (Below.then (unhide HB5) hb2)
        clear hb2
        go_wp2_with fail
        refine (check_any _ _ (by rw [n2]; omega)).mono ?_
        rintro e Y7 ⟨rfl, hb3⟩
        rw [unhide S2]
        have HB5 := hide (Below.then (unhide HB5) hb3)
        clear hb3
        go_wp2_with fail
        refine (empty_any _ _ (by omega)).mono ?_
        rintro e Y8 ⟨rfl, rfl⟩
        rw [unhide E0]
        go_wp2_with fail
        rw [Ck.wrap_u16]
        refine (update_any _ _ _ _ q0 q1 (by omega) (by omega) (by omega) (by omega)).mono ?_
        rintro e Y9 ⟨rfl, hb4⟩
        rw [unhide H3 (by first | rfl | trivial)]
        have HB5 := hide (Below.then (unhide HB5) hb4)
        clear hb4
        go_wp2_with fail
        go_ret
        exact ⟨rfl, unhide HB5⟩
    · cases e0 with
      | true =>
        refine (check_any _ _ (by rw [n1]; omega)).mono ?_
        rintro e Y10 ⟨rfl, hb1⟩
        rw [unhide S1]
        have HB5 := hide (Below.then (unhide HB5) hb1)
        clear hb1
        go_wp2_with fail
        refine (empty_any _ _ (by rw [n1]; omega)).mono ?_
        rintro e Y11 ⟨rfl, rfl⟩
        rw [unhide E1]
        go_wp2_with fail
        refine (update32_any _ _ _ _ q0 q1 o0 o1 d0 d1).mono ?_
        rintro e Y12 ⟨rfl, hb2⟩
        rw [unhide V2]
        have HB5 := hide (Below.then (unhide HB5) hb2)
        clear hb2
        go_wp2_with fail
        refine (check_any _ _ (by rw [n2]; omega)).mono ?_
        rintro e Y13 ⟨rfl, hb3⟩
        rw [unhide S2]
        have HB5 := hide (Below.then (unhide HB5) hb3)
        clear hb3
        go_wp2_with fail
        refine (empty_any _ _ (by omega)).mono ?_
        rintro e Y14 ⟨rfl, rfl⟩
        rw [unhide E0]
        go_wp2_with fail
        go_ret
        exact ⟨rfl, unhide HB5⟩
      | false =>
        refine (check_any _ _ (by rw [n1]; omega)).mono ?_
        rintro e Y15 ⟨rfl, hb1⟩
        rw [unhide S1]
        have HB5 := hide (Below.then (unhide HB5) hb1)
        clear hb1
        go_wp2_with fail
        refine (empty_any _ _ (by rw [n1]; omega)).mono ?_
        rintro e Y16 ⟨rfl, rfl⟩
        rw [unhide E1]
        go_wp2_with fail
        refine (update32_any _ _ _ _ q0 q1 o0 o1 d0 d1).mono ?_
        rintro e Y17 ⟨rfl, hb2⟩
        rw [unhide V2]
        have HB5 := hide (Below.then (unhide HB5) hb2)
        clear hb2
        go_wp2_with fail
        refine (check_any _ _ (by rw [n2]; omega)).mono ?_
        rintro e Y18 ⟨rfl, hb3⟩
        rw [unhide S2]
        have HB5 := hide (Below.then (unhide HB5) hb3)
        clear hb3
        go_wp2_with fail
        refine (empty_any _ _ (by omega)).mono ?_
        rintro e Y19 ⟨rfl, rfl⟩
        rw [unhide E0]
        go_wp2_with fail
        rw [Ck.wrap_u16]
        refine (update_any _ _ _ _ q0 q1 (by omega) (by omega) (by omega) (by omega)).mono ?_
        rintro e Y20 ⟨rfl, hb4⟩
        rw [unhide H3 (by first | rfl | trivial)]
        have HB5 := hide (Below.then (unhide HB5) hb4)
        clear hb4
        go_wp2_with fail
        go_ret
        exact ⟨rfl, unhide HB5⟩
    · cases e0 with
      | true =>
        refine (check_any _ _ (by rw [n1]; omega)).mono ?_
        rintro e Y21 ⟨rfl, hb1⟩
        rw [unhide S1]
        have HB5 := hide (Below.then (unhide HB5) hb1)
        clear hb1
        go_wp2_with fail
        refine (update32_any _ _ _ _ q0 q1 o0 o1 d0 d1).mono ?_
        rintro e Y22 ⟨rfl, hb2⟩
        rw [unhide V2]
        have HB5 := hide (Below.then (unhide HB5) hb2)
        clear hb2
        go_wp2_with fail
        refine (check_any _ _ (by rw [n2]; omega)).mono ?_
        rintro e Y23 ⟨rfl, hb3⟩
        rw [unhide S2]
        have HB5 := hide (Below.then (unhide HB5) hb3)
        clear hb3
        go_wp2_with fail
        refine (empty_any _ _ (by rw [n1]; omega)).mono ?_
        rintro e Y24 ⟨rfl, rfl⟩
        rw [unhide E1]
        go_wp2_with fail
        refine (empty_any _ _ (by omega)).mono ?_
        rintro e Y25 ⟨rfl, rfl⟩
        rw [unhide E0]
        go_wp2_with fail
        go_ret
        exact ⟨rfl, unhide HB5⟩
      | false =>
        refine (check_any _ _ (by rw [n1]; omega)).mono ?_
        rintro e Y26 ⟨rfl, hb1⟩
        rw [unhide S1]
        have HB5 := hide (Below.then (unhide HB5) hb1)
        clear hb1
        go_wp2_with fail
        refine (update32_any _ _ _ _ q0 q1 o0 o1 d0 d1).mono ?_
        rintro e Y27 ⟨rfl, hb2⟩
        rw [unhide V2]
        have HB5 := hide (Below.then (unhide HB5) hb2)
        clear hb2
        go_wp2_with fail
        refine (check_any _ _ (by rw [n2]; omega)).mono ?_
        rintro e Y28 ⟨rfl, hb3⟩
        rw [unhide S2]
        have HB5 := hide (Below.then (unhide HB5) hb3)
        clear hb3
        go_wp2_with fail
        refine (empty_any _ _ (by rw [n1]; omega)).mono ?_
        rintro e Y29 ⟨rfl, rfl⟩
        rw [unhide E1]
        go_wp2_with fail
        refine (empty_any _ _ (by omega)).mono ?_
        rintro e Y30 ⟨rfl, rfl⟩
        rw [unhide E0]
        go_wp2_with fail
        rw [Ck.wrap_u16]
        refine (update_any _ _ _ _ q0 q1 (by omega) (by omega) (by omega) (by omega)).mono ?_
        rintro e Y31 ⟨rfl, hb4⟩
        rw [unhide H3 (by first | rfl | trivial)]
        have HB5 := hide (Below.then (unhide HB5) hb4)
        clear hb4
        go_wp2_with fail
        go_ret
        exact ⟨rfl, unhide HB5⟩
    · cases e0 with
      | true =>
        refine (check_any _ _ (by rw [n1]; omega)).mono ?_
        rintro e Y32 ⟨rfl, hb1⟩
        rw [unhide S1]
        have HB5 := hide (Below.then (unhide HB5) hb1)
        clear hb1
        go_wp2_with fail
        refine (empty_any _ _ (by rw [n1]; omega)).mono ?_
        rintro e Y33 ⟨rfl, rfl⟩
        rw [unhide E1]
        go_wp2_with fail
        refine (update32_any _ _ _ _ q0 q1 o0 o1 d0 d1).mono ?_
        rintro e Y34 ⟨rfl, hb2⟩
        rw [unhide V2]
        have HB5 := hide (Below.then (unhide HB5) hb2)
        clear hb2
        go_wp2_with fail
        refine (check_any _ _ (by rw [n2]; omega)).mono ?_
        rintro e Y35 ⟨rfl, hb3⟩
        rw [unhide S2]
        have HB5 := hide (Below.then (unhide HB5) hb3)
        clear hb3
        go_wp2_with fail
        refine (empty_any _ _ (by rw [n1]; omega)).mono ?_
        rintro e Y36 ⟨rfl, rfl⟩
        rw [unhide E1]
        go_wp2_with fail
        refine (empty_any _ _ (by omega)).mono ?_
        rintro e Y37 ⟨rfl, rfl⟩
        rw [unhide E0]
        go_wp2_with fail
        go_ret
        exact ⟨rfl, unhide HB5⟩
      | false =>
        refine (check_any _ _ (by rw [n1]; omega)).mono ?_
        rintro e Y38 ⟨rfl, hb1⟩
        rw [unhide S1]
        have HB5 := hide (Below.then (unhide HB5) hb1)
        clear hb1
        go_wp2_with fail
        refine (empty_any _ _ (by rw [n1]; omega)).mono ?_
        rintro e Y39 ⟨rfl, rfl⟩
        rw [unhide E1]
        go_wp2_with fail
        refine (update32_any _ _ _ _ q0 q1 o0 o1 d0 d1).mono ?_
        rintro e Y40 ⟨rfl, hb2⟩
        rw [unhide V2]
        have HB5 := hide (Below.then (unhide HB5) hb2)
        clear hb2
        go_wp2_with fail
        refine (check_any _ _ (by rw [n2]; omega)).mono ?_
        rintro e Y41 ⟨rfl, hb3⟩
        rw [unhide S2]
        have HB5 := hide (Below.then (unhide HB5) hb3)
        clear hb3
        go_wp2_with fail
        refine (empty_any _ _ (by rw [n1]; omega)).mono ?_
        rintro e Y42 ⟨rfl, rfl⟩
        rw [unhide E1]
        go_wp2_with fail
        refine (empty_any _ _ (by omega)).mono ?_
        rintro e Y43 ⟨rfl, rfl⟩
        rw [unhide E0]
        go_wp2_with fail
        rw [Ck.wrap_u16]
        refine (update_any _ _ _ _ q0 q1 (by omega) (by omega) (by omega) (by omega)).mono ?_
        rintro e Y44 ⟨rfl, hb4⟩
        rw [unhide H3 (by first | rfl | trivial)]
        have HB5 := hide (Below.then (unhide HB5) hb4)
        clear hb4
        go_wp2_with fail
        go_ret
        exact ⟨rfl, unhide HB5⟩
    · cases e0 with
      | true =>
        refine (check_any _ _ (by rw [n1]; omega)).mono ?_
        rintro e Y45 ⟨rfl, hb1⟩
        rw [unhide S1]
        have HB5 := hide (Below.then (unhide HB5) hb1)
        clear hb1
        go_wp2_with fail
        refine (update32_any _ _ _ _ q0 q1 o0 o1 d0 d1).mono ?_
        rintro e Y46 ⟨rfl, hb2⟩
        rw [unhide V2]
        have HB5 := hide (Below.then (unhide HB5) hb2)
        clear hb2
        go_wp2_with fail
        refine (check_any _ _ (by rw [n2]; omega)).mono ?_
        rintro e Y47 ⟨rfl, hb3⟩
        rw [unhide S2]
        have HB5 := hide (Below.then (unhide HB5) hb3)
        clear hb3
        go_wp2_with fail
        refine (empty_any _ _ (by rw [n1]; omega)).mono ?_
        rintro e Y48 ⟨rfl, rfl⟩
        rw [unhide E1]
        go_wp2_with fail
        refine (empty_any _ _ (by rw [n2]; omega)).mono ?_
        rintro e Y49 ⟨rfl, rfl⟩
        rw [unhide E2]
        go_wp2_with fail
        refine (empty_any _ _ (by omega)).mono ?_
        rintro e Y50 ⟨rfl, rfl⟩
        rw [unhide E0]
        go_wp2_with fail
        go_ret
        exact ⟨rfl, unhide HB5⟩
      | false =>
        refine (check_any _ _ (by rw [n1]; omega)).mono ?_
        rintro e Y51 ⟨rfl, hb1⟩
        rw [unhide S1]
        have HB5 := hide (Below.then (unhide HB5) hb1)
        clear hb1
        go_wp2_with fail
        refine (update32_any _ _ _ _ q0 q1 o0 o1 d0 d1).mono ?_
        rintro e Y52 ⟨rfl, hb2⟩
        rw [unhide V2]
        have HB5 := hide (Below.then (unhide HB5) hb2)
        clear hb2
        go_wp2_with fail
        refine (check_any _ _ (by rw [n2]; omega)).mono ?_
        rintro e Y53 ⟨rfl, hb3⟩
        rw [unhide S2]
        have HB5 := hide (Below.then (unhide HB5) hb3)
        clear hb3
        go_wp2_with fail
        refine (empty_any _ _ (by rw [n1]; omega)).mono ?_
        rintro e Y54 ⟨rfl, rfl⟩
        rw [unhide E1]
        go_wp2_with fail
        refine (empty_any _ _ (by rw [n2]; omega)).mono ?_
        rintro e Y55 ⟨rfl, rfl⟩
        rw [unhide E2]
        go_wp2_with fail
        refine (empty_any _ _ (by omega)).mono ?_
        rintro e Y56 ⟨rfl, rfl⟩
        rw [unhide E0]
        go_wp2_with fail
        rw [Ck.wrap_u16]
        refine (update_any _ _ _ _ q0 q1 (by omega) (by omega) (by omega) (by omega)).mono ?_
        rintro e Y57 ⟨rfl, hb4⟩
        rw [unhide H3 (by first | rfl | trivial)]
        have HB5 := hide (Below.then (unhide HB5) hb4)
        clear hb4
        go_wp2_with fail
        go_ret
        exact ⟨rfl, unhide HB5⟩

theorem own : ownKnob Try.prog.godebug = none := by kernel_rfl
set_option maxRecDepth 100000 in
theorem lifted (os : Os) (started : os.Started) (H : Type) (enc : TypeId × Value → H) :
    ReturnsInHanded {} Try.checked os 6 .any (Rows.cksumChangesSpec.pre6 enc Try.prog Try.f6 Rows.cksumChangesRow.domain false) (Rows.cksumChangesSpec.post enc Try.prog Try.f6 false true false false) := by
  refine returnsInHanded_of_change_sized (C := Try.checked) own started (by kernel_rfl) Try.func6
    (ChangeSpec.witness6 (enc := enc) (C := Try.checked) false ⟨#[], #[.string ByteArray.empty, .int .i64 0, .int .u32 0], []⟩ 8 (by kernel_rfl) (by kernel_rfl) (by kernel_rfl) (by kernel_rfl)) ?_
  intro W base args ds gs before hval0 hW hcnd hsz _
  have hval : ∀ (j : Nat) t v, Try.f6.params[j]? = some t → args[j]? = some v → Value.okWide Try.prog W .any base t v := hval0
  have hW' := hW
  obtain ⟨p, q, hA0, hV, rfl, hfz, hnd⟩ := hW
  have hA : DataW.TrodAll enc Try.prog W 0 (fun _ => true) true Try.f6.params.toList args.toList ds p := hA0
  rw [Try.params6] at hA hval
  obtain ⟨v0, vs0, d0, ds0, p0, q0, hargs, rfl, rfl, h0, r0⟩ := trodAll_cons hA
  obtain ⟨v1, vs1, d1, ds1, p1, q1, rfl, rfl, rfl, h1, r1⟩ := trodAll_cons r0
  obtain ⟨v2, vs2, d2, ds2, p2, q2, rfl, rfl, rfl, h2, r2⟩ := trodAll_cons r1
  obtain ⟨rfl, rfl, rfl⟩ := trodAll_nil r2
  obtain rfl : args = #[v0, v1, v2] := by cases args; simp_all
  obtain ⟨rfl, rfl⟩ := trodVars_none hV
  obtain ⟨a0, rfl, rfl, rfl, w0⟩ := open_string Try.underlying9 (hval 0 9 v0 rfl rfl) h0
  obtain ⟨a1, rfl, rfl, rfl, w1⟩ := open_int Try.underlying3 (hval 1 3 v1 rfl rfl) h1
  obtain ⟨a2, rfl, rfl, rfl, w2⟩ := open_int Try.underlying31 (hval 2 31 v2 rfl rfl) h2
  clear hA0 hval0
  simp only [List.append_nil] at hW'
  have z0 : a0.size ≤ 140737488355328 := by
    have hq : a0.data.toList.length ≤ reachBytes := sized_string hsz (j := 0) (t := 9) rfl rfl
    have e : a0.data.toList.length = a0.size := by rw [Array.length_toList]; rfl
    rw [e] at hq
    exact Nat.le_trans hq (Nat.le_of_lt reachBytes_lt)
  refine (walk W a0 a1 a2 z0 w1 w2).mono fun e W' ⟨he, bel⟩ => ?_
  subst he
  exact ⟨_, rfl, _, _, _, [], _, [], hW', (trodAll_cons_mk (shut_bool Try.underlying4 _) trodAll_mk0), (trodAll_cons_mk (shut_string Try.underlying9 w0) (trodAll_cons_mk (shut_int Try.underlying3 w1) (trodAll_cons_mk (shut_int Try.underlying31 w2) trodAll_mk0))), rfl, bel.frame _, fun h => by cases h⟩

theorem over : Rows.cksumChangesRow.holds Try.pinned (OpenSpec.ofChange Rows.cksumChangesSpec) :=
  OpenClaim.holds_of_wide 6 Try.f6 rfl rfl rfl rfl rfl rfl rfl ⟨rfl, rfl, rfl, rfl, rfl⟩ rfl rfl rfl rfl rfl (by kernel_rfl) Try.func6 (by kernel_rfl)
    (of_decide_eq_true (by kernel_rfl)) (by unfold Func.isWrapper; first | (rw [if_pos (by decide +kernel)]; kernel_rfl) | (rw [if_neg (by decide +kernel)]; exact ⟨rfl, rfl⟩))
    (fun os started H enc _ => lifted os started H enc)

theorem proved : Rows.CksumChangesSaid := over
#print axioms proved
end Go.Proofs.Ythhhedpnofommaa.cksumChanges
