/- The law TcpBack returns true for every header, body and text: what is built is parsed as it was, what is parsed is built as it stood, but for its check. -/
import Derived.Test.YtgfmpcfdggcifaaRows
import Derived.OpenShut
import Derived.ShutString
import Derived.ChangeOld
import Derived.Below
import Derived.SizedLaws
import Derived.Test.YtgfmpcfdggcifaaTcOpen
import Derived.Test.YtgfmpcfdggcifaaTcEx
namespace Go.Proofs.Ytgfmpcfdggcifaa.tcpBack
open Go.ChangeShapes Go.WideShapes Go.ChangeAt Go.RowKit
open Go.ChangeMaps (open_string shut_string)
set_option linter.unusedVariables false
set_option maxHeartbeats 8000000 in
set_option maxRecDepth 100000 in
theorem walk (w : World) (a0 : Hd) (w0 : a0.Wf) (a1 : ByteArray) (z1 : a1.size ≤ 140737488355328) (a2 : ByteArray) (z2 : a2.size ≤ 140737488355328) :
    Calls Try.prog 5 #[a0.val, .string a1, .string a2] w fun e w' => e = .returned (.bool true) ∧ Below w.heap.size w w' := by
  have hk0 := kept_new w a0 24
  go_enter Try.func5, Try.ntmps5
  go_wp2_with fail
  refine (examples_ok _).mono ?_
  rintro e w1 ⟨rfl, hb1⟩
  have hk1 := hk0.on hb1
  clear hb1 hk0
  have q0 := hk1.at_ 0 (by decide)
  have q1 := hk1.at_ 1 (by decide)
  have q2 := hk1.at_ 2 (by decide)
  have q3 := hk1.at_ 3 (by decide)
  have q4 := hk1.at_ 4 (by decide)
  have q5 := hk1.at_ 5 (by decide)
  have q6 := hk1.at_ 6 (by decide)
  have q7 := hk1.at_ 7 (by decide)
  simp only [hcell] at q0 q1 q2 q3 q4 q5 q6 q7
  have HK := hide hk1
  clear hk1
  go_wp2_with fail
  refine (build_any a0 a1 _ w0 z1).mono ?_
  rintro e w2 ⟨rfl, hb2⟩
  have hk2 := (unhide HK).on hb2
  clear HK hb2
  clear q0 q1 q2 q3 q4 q5 q6 q7
  by_cases he : buildE a0 a1 = 0
  case neg =>
    have hd : (buildE a0 a1 == 0) = false := by simpa using he
    have HB := hide hk2.below
    have hszB := hk2.below.size
    clear hk2 he
    go_wp2_with fail
    have hxs : a2.size ≤ 281474976710656 := by omega
    by_cases hp : parseE a2 = 0
    case neg =>
      have hpc : ∀ u, Calls Try.prog 20 #[.string a2] u fun e u' => e = .returned (.tuple #[.agg #[.int .i64 0, .int .i64 0, .int .u32 0, .int .u32 0, .int .i64 0, .int .i64 0, .int .i64 0, .string ⟨#[]⟩], .string ⟨#[]⟩, .int .i64 (parseE a2)]) ∧ Below u.heap.size u u' := fun u => by
        have := parse_any a2 u hxs
        rw [parseH_no hp, parseS_no hp] at this
        exact this
      have hd1 : (parseE a2 != 0) = true := by simpa using hp
      have hd2 : (parseE a2 == 0) = false := by simpa using hp
      refine (hpc _).mono ?_
      rintro e v1 ⟨rfl, hc1⟩
      have kb1 := (unhide HB).trans (hc1.mono hszB)
      have ks1 : w.heap.size ≤ v1.heap.size := kb1.size
      have hk0 := kept_new v1 zeroHd 24
      simp only [zeroHd] at hk0
      have KB := hide kb1
      have HK := hide hk0
      clear hc1 kb1 hk0 hpc
      go_wp2_with fail
      refine (build_any zeroHd ⟨#[]⟩ _ zero_wf (by decide)).mono ?_
      rintro e v2 ⟨rfl, hc2⟩
      have hk1 := (unhide HK).on hc2
      have q0 := hk1.at_ 0 (by decide)
      have q1 := hk1.at_ 1 (by decide)
      have q2 := hk1.at_ 2 (by decide)
      have q3 := hk1.at_ 3 (by decide)
      have q4 := hk1.at_ 4 (by decide)
      have q5 := hk1.at_ 5 (by decide)
      have q6 := hk1.at_ 6 (by decide)
      have q7 := hk1.at_ 7 (by decide)
      simp only [hcell] at q0 q1 q2 q3 q4 q5 q6 q7
      have HK := hide hk1
      clear hk1 hc2
      go_wp2_with fail
      go_ret
      exact ⟨rfl, (unhide KB).trans ((unhide HK).below.mono ks1)⟩
    case pos =>
      have PP := parsed_of hp
      have hpH : parseH a2 = pH a2 := if_pos hp
      have hpS : parseS a2 = pB a2 := if_pos hp
      have hpc : ∀ u, Calls Try.prog 20 #[.string a2] u fun e u' => e = .returned (.tuple #[(pH a2).val, .string (pB a2), .int .i64 0]) ∧ Below u.heap.size u u' := fun u => by
        have := parse_any a2 u hxs
        rw [hpH, hpS, hp] at this
        exact this
      have hwf := pH_wf a2 z2
      have hbz := parseS_size a2
      rw [hpS] at hbz
      have hbz2 : (pB a2).size ≤ 140737488355328 := by omega
      clear hpH hpS hp
      refine (hpc _).mono ?_
      rintro e v1 ⟨rfl, hc1⟩
      have kb1 := (unhide HB).trans (hc1.mono hszB)
      have ks1 : w.heap.size ≤ v1.heap.size := kb1.size
      have hk0 := kept_new v1 (pH a2) 24
      have KB := hide kb1
      have HK := hide hk0
      clear hc1 kb1 hk0 hpc
      go_wp2_with fail
      refine (build_any (pH a2) (pB a2) _ hwf hbz2).mono ?_
      rintro e v2 ⟨rfl, hc2⟩
      have hk1 := (unhide HK).on hc2
      have kb2 := (unhide KB).trans (hk1.below.mono ks1)
      have ks2 := kb2.size
      have KB := hide kb2
      clear hk1 hc2 HK kb2
      by_cases hl : 1500 < (a2.size : Int)
      · have hd3 : decide (1500 < (a2.size : Int)) = true := by simpa using hl
        clear hl
        go_wp2_with fail
        go_ret
        exact ⟨rfl, unhide KB⟩
      · have hd3 : decide (1500 < (a2.size : Int)) = false := by simpa using hl
        have he : buildE (pH a2) (pB a2) = 0 := buildE_of (pH_right PP) (by
          have h1 := pO_size PP
          have h2 := pB_size PP
          show 20 + ((pO a2).size : Int) + (pB a2).size ≤ 1500
          omega)
        rw [buildS_of he, he]
        obtain ⟨x0, x1, x3, x5⟩ := back_parts PP z2
        have h20 := PP.z20
        clear he hl hwf hbz hbz2 PP
        generalize built (pH a2) (pB a2) = U at *
        generalize hP1 : a2.extract 0 16 = P1 at *
        generalize hP2 : a2.extract 18 a2.size = P2 at *
        have x2 := hP1
        have x4 := hP2
        rw [← x0] at x3
        have u16 : (16 : Int) ≤ U.size := by omega
        have u18 : (18 : Int) ≤ U.size := by omega
        have u16' : (16 : Int) ≤ a2.size := by omega
        have u18' : (18 : Int) ≤ a2.size := by omega
        have hd4 : ((U.size : Int) != (a2.size : Int)) = false := by simp; omega
        clear hP1 hP2
        go_wp2_with fail
        refine wp_region_grow (by kernel_rfl) [.bool true, .bool true, .string U, .string P1, .string a2, .string P1, .bool true, .bool true, .bool true, .string U, .string P2, .string a2, .string P2, .bool true, .bool true, .bool true, .string U, .string ⟨#[0, 0]⟩, .bool true, .bool true, .bool true] (by kernel_rfl) ?op ?fin
        case op =>
          intro i o bx u ho hbel hS
          match i, ho with
          | 0, ho =>
            obtain rfl := Option.some.inj ho
            have d7 : bx.tmps.getD 7 undef = .bool true := hS.base 7 (by kernel_rfl)
            refine .inl ⟨rfl, ends_value' (c := .bool true) ?_⟩
            simp [execOp, Act.eval, d7]
          | 1, ho =>
            obtain rfl := Option.some.inj ho
            have d89 : bx.tmps.getD 89 undef = .bool true := hS.dep 0 89 (by kernel_rfl) (by kernel_rfl)
            refine .inl ⟨rfl, ends_value' (c := .bool true) ?_⟩
            simp [execOp, Act.eval, d89]
          | 2, ho =>
            obtain rfl := Option.some.inj ho
            have d16 : bx.tmps.getD 16 undef = .string U := hS.base 16 (by kernel_rfl)
            have gd : bx.tmps.getD 90 undef = .bool true := hS.dep 1 90 (by kernel_rfl) (by kernel_rfl)
            refine .inl ⟨wanted_yes (j := 1) (t := 90) (c := true) (by kernel_rfl) (by kernel_rfl) gd, ends_value' (c := .string U) ?_⟩
            simp [execOp, Act.eval, d16]
          | 3, ho =>
            obtain rfl := Option.some.inj ho
            have d91 : bx.tmps.getD 91 undef = .string U := hS.dep 2 91 (by kernel_rfl) (by kernel_rfl)
            have gd : bx.tmps.getD 90 undef = .bool true := hS.dep 1 90 (by kernel_rfl) (by kernel_rfl)
            refine .inl ⟨wanted_yes (j := 1) (t := 90) (c := true) (by kernel_rfl) (by kernel_rfl) gd, ends_value' (c := .string P1) ?_⟩
            simp [Act.eval, d91, go_sem, x1, u16]
          | 4, ho =>
            obtain rfl := Option.some.inj ho
            have d2 : bx.tmps.getD 2 undef = .string a2 := hS.base 2 (by kernel_rfl)
            have gd : bx.tmps.getD 90 undef = .bool true := hS.dep 1 90 (by kernel_rfl) (by kernel_rfl)
            refine .inl ⟨wanted_yes (j := 1) (t := 90) (c := true) (by kernel_rfl) (by kernel_rfl) gd, ends_value' (c := .string a2) ?_⟩
            simp [execOp, Act.eval, d2]
          | 5, ho =>
            obtain rfl := Option.some.inj ho
            have d93 : bx.tmps.getD 93 undef = .string a2 := hS.dep 4 93 (by kernel_rfl) (by kernel_rfl)
            have gd : bx.tmps.getD 90 undef = .bool true := hS.dep 1 90 (by kernel_rfl) (by kernel_rfl)
            refine .inl ⟨wanted_yes (j := 1) (t := 90) (c := true) (by kernel_rfl) (by kernel_rfl) gd, ends_value' (c := .string P1) ?_⟩
            simp [Act.eval, d93, go_sem, x2, u16']
          | 6, ho =>
            obtain rfl := Option.some.inj ho
            have d92 : bx.tmps.getD 92 undef = .string P1 := hS.dep 3 92 (by kernel_rfl) (by kernel_rfl)
            have d94 : bx.tmps.getD 94 undef = .string P1 := hS.dep 5 94 (by kernel_rfl) (by kernel_rfl)
            have gd : bx.tmps.getD 90 undef = .bool true := hS.dep 1 90 (by kernel_rfl) (by kernel_rfl)
            refine .inl ⟨wanted_yes (j := 1) (t := 90) (c := true) (by kernel_rfl) (by kernel_rfl) gd, ends_value' (c := .bool true) ?_⟩
            simp [Act.eval, d92, d94, go_sem]
          | 7, ho =>
            obtain rfl := Option.some.inj ho
            have d90 : bx.tmps.getD 90 undef = .bool true := hS.dep 1 90 (by kernel_rfl) (by kernel_rfl)
            have d95 : bx.tmps.getD 95 undef = .bool true := hS.dep 6 95 (by kernel_rfl) (by kernel_rfl)
            refine .inl ⟨rfl, ends_value' (c := .bool true) ?_⟩
            simp [Act.eval, d90, d95, go_sem]
          | 8, ho =>
            obtain rfl := Option.some.inj ho
            have d96 : bx.tmps.getD 96 undef = .bool true := hS.dep 7 96 (by kernel_rfl) (by kernel_rfl)
            refine .inl ⟨rfl, ends_value' (c := .bool true) ?_⟩
            simp [execOp, Act.eval, d96]
          | 9, ho =>
            obtain rfl := Option.some.inj ho
            have d16 : bx.tmps.getD 16 undef = .string U := hS.base 16 (by kernel_rfl)
            have gd : bx.tmps.getD 97 undef = .bool true := hS.dep 8 97 (by kernel_rfl) (by kernel_rfl)
            refine .inl ⟨wanted_yes (j := 8) (t := 97) (c := true) (by kernel_rfl) (by kernel_rfl) gd, ends_value' (c := .string U) ?_⟩
            simp [execOp, Act.eval, d16]
          | 10, ho =>
            obtain rfl := Option.some.inj ho
            have d98 : bx.tmps.getD 98 undef = .string U := hS.dep 9 98 (by kernel_rfl) (by kernel_rfl)
            have gd : bx.tmps.getD 97 undef = .bool true := hS.dep 8 97 (by kernel_rfl) (by kernel_rfl)
            refine .inl ⟨wanted_yes (j := 8) (t := 97) (c := true) (by kernel_rfl) (by kernel_rfl) gd, ends_value' (c := .string P2) ?_⟩
            simp [Act.eval, d98, go_sem, x3, u18]
          | 11, ho =>
            obtain rfl := Option.some.inj ho
            have d2 : bx.tmps.getD 2 undef = .string a2 := hS.base 2 (by kernel_rfl)
            have gd : bx.tmps.getD 97 undef = .bool true := hS.dep 8 97 (by kernel_rfl) (by kernel_rfl)
            refine .inl ⟨wanted_yes (j := 8) (t := 97) (c := true) (by kernel_rfl) (by kernel_rfl) gd, ends_value' (c := .string a2) ?_⟩
            simp [execOp, Act.eval, d2]
          | 12, ho =>
            obtain rfl := Option.some.inj ho
            have d100 : bx.tmps.getD 100 undef = .string a2 := hS.dep 11 100 (by kernel_rfl) (by kernel_rfl)
            have gd : bx.tmps.getD 97 undef = .bool true := hS.dep 8 97 (by kernel_rfl) (by kernel_rfl)
            refine .inl ⟨wanted_yes (j := 8) (t := 97) (c := true) (by kernel_rfl) (by kernel_rfl) gd, ends_value' (c := .string P2) ?_⟩
            simp [Act.eval, d100, go_sem, x4, u18']
          | 13, ho =>
            obtain rfl := Option.some.inj ho
            have d99 : bx.tmps.getD 99 undef = .string P2 := hS.dep 10 99 (by kernel_rfl) (by kernel_rfl)
            have d101 : bx.tmps.getD 101 undef = .string P2 := hS.dep 12 101 (by kernel_rfl) (by kernel_rfl)
            have gd : bx.tmps.getD 97 undef = .bool true := hS.dep 8 97 (by kernel_rfl) (by kernel_rfl)
            refine .inl ⟨wanted_yes (j := 8) (t := 97) (c := true) (by kernel_rfl) (by kernel_rfl) gd, ends_value' (c := .bool true) ?_⟩
            simp [Act.eval, d99, d101, go_sem]
          | 14, ho =>
            obtain rfl := Option.some.inj ho
            have d97 : bx.tmps.getD 97 undef = .bool true := hS.dep 8 97 (by kernel_rfl) (by kernel_rfl)
            have d102 : bx.tmps.getD 102 undef = .bool true := hS.dep 13 102 (by kernel_rfl) (by kernel_rfl)
            refine .inl ⟨rfl, ends_value' (c := .bool true) ?_⟩
            simp [Act.eval, d97, d102, go_sem]
          | 15, ho =>
            obtain rfl := Option.some.inj ho
            have d103 : bx.tmps.getD 103 undef = .bool true := hS.dep 14 103 (by kernel_rfl) (by kernel_rfl)
            refine .inl ⟨rfl, ends_value' (c := .bool true) ?_⟩
            simp [execOp, Act.eval, d103]
          | 16, ho =>
            obtain rfl := Option.some.inj ho
            have d16 : bx.tmps.getD 16 undef = .string U := hS.base 16 (by kernel_rfl)
            have gd : bx.tmps.getD 104 undef = .bool true := hS.dep 15 104 (by kernel_rfl) (by kernel_rfl)
            refine .inl ⟨wanted_yes (j := 15) (t := 104) (c := true) (by kernel_rfl) (by kernel_rfl) gd, ends_value' (c := .string U) ?_⟩
            simp [execOp, Act.eval, d16]
          | 17, ho =>
            obtain rfl := Option.some.inj ho
            have d105 : bx.tmps.getD 105 undef = .string U := hS.dep 16 105 (by kernel_rfl) (by kernel_rfl)
            have gd : bx.tmps.getD 104 undef = .bool true := hS.dep 15 104 (by kernel_rfl) (by kernel_rfl)
            refine .inl ⟨wanted_yes (j := 15) (t := 104) (c := true) (by kernel_rfl) (by kernel_rfl) gd, ends_value' (c := .string ⟨#[0, 0]⟩) ?_⟩
            simp [Act.eval, d105, go_sem, x5, u18]
          | 18, ho =>
            obtain rfl := Option.some.inj ho
            have d106 : bx.tmps.getD 106 undef = .string ⟨#[0, 0]⟩ := hS.dep 17 106 (by kernel_rfl) (by kernel_rfl)
            have gd : bx.tmps.getD 104 undef = .bool true := hS.dep 15 104 (by kernel_rfl) (by kernel_rfl)
            refine .inl ⟨wanted_yes (j := 15) (t := 104) (c := true) (by kernel_rfl) (by kernel_rfl) gd, ends_value' (c := .bool true) ?_⟩
            simp [Act.eval, d106, go_sem]
          | 19, ho =>
            obtain rfl := Option.some.inj ho
            have d104 : bx.tmps.getD 104 undef = .bool true := hS.dep 15 104 (by kernel_rfl) (by kernel_rfl)
            have d107 : bx.tmps.getD 107 undef = .bool true := hS.dep 18 107 (by kernel_rfl) (by kernel_rfl)
            refine .inl ⟨rfl, ends_value' (c := .bool true) ?_⟩
            simp [Act.eval, d104, d107, go_sem]
          | 20, ho =>
            obtain rfl := Option.some.inj ho
            have d108 : bx.tmps.getD 108 undef = .bool true := hS.dep 19 108 (by kernel_rfl) (by kernel_rfl)
            refine .inl ⟨rfl, ends_value' (c := .bool true) ?_⟩
            simp [execOp, Act.eval, d108]
          | n + 21, ho => exact absurd ho (by simp)
        case fin =>
          intro u hbel
          simp [putAll, dstAt, Act.put]
          go_wp2_with fail
          go_ret
          exact ⟨rfl, (unhide KB).drew.trans (hbel.mono (by omega))⟩
  case pos =>
    obtain ⟨hR, hbt⟩ := build_right he
    obtain ⟨p1, p2, p3⟩ := parse_built hR w0 a1
    have hbs := built_size hR w0 a1
    unfold btotal at hbt
    rw [buildS_of he, he]
    clear he hR
    generalize built a0 a1 = s at *
    have HK := hide hk2
    clear hk2
    go_wp2_with fail
    refine (parse_any s _ (by omega)).mono ?_
    rintro e w3 ⟨rfl, hb3⟩
    rw [p1, p2, p3]
    have hk3 := (unhide HK).on hb3
    have hn3 := newHd w3 a0 24
    have hk4 := hk3.on (alloc_on w3 (.cells #[.int .i64 a0.src, .int .i64 a0.dst, .int .u32 a0.seq, .int .u32 a0.ack, .int .i64 a0.flags, .int .i64 a0.win, .int .i64 a0.urg, .string a0.opts] 24))
    clear HK hb3 p1 p2 p3 hk3
    have q0 := hk4.at_ 0 (by decide)
    have q1 := hk4.at_ 1 (by decide)
    have q2 := hk4.at_ 2 (by decide)
    have q3 := hk4.at_ 3 (by decide)
    have q4 := hk4.at_ 4 (by decide)
    have q5 := hk4.at_ 5 (by decide)
    have q6 := hk4.at_ 6 (by decide)
    have q7 := hk4.at_ 7 (by decide)
    simp only [hcell] at q0 q1 q2 q3 q4 q5 q6 q7
    have r0 := hn3.at_ 0 (by decide)
    have r1 := hn3.at_ 1 (by decide)
    have r2 := hn3.at_ 2 (by decide)
    have r3 := hn3.at_ 3 (by decide)
    have r4 := hn3.at_ 4 (by decide)
    have r5 := hn3.at_ 5 (by decide)
    have r6 := hn3.at_ 6 (by decide)
    have r7 := hn3.at_ 7 (by decide)
    simp only [hcell] at r0 r1 r2 r3 r4 r5 r6 r7
    have HB := hide hk4.below
    have hszB := hk4.below.size
    clear hk4 hn3
    go_wp2_with fail
    clear q0 q1 q2 q3 q4 q5 q6 q7
    clear r0 r1 r2 r3 r4 r5 r6 r7
    have hxs : a2.size ≤ 281474976710656 := by omega
    by_cases hp : parseE a2 = 0
    case neg =>
      have hpc : ∀ u, Calls Try.prog 20 #[.string a2] u fun e u' => e = .returned (.tuple #[.agg #[.int .i64 0, .int .i64 0, .int .u32 0, .int .u32 0, .int .i64 0, .int .i64 0, .int .i64 0, .string ⟨#[]⟩], .string ⟨#[]⟩, .int .i64 (parseE a2)]) ∧ Below u.heap.size u u' := fun u => by
        have := parse_any a2 u hxs
        rw [parseH_no hp, parseS_no hp] at this
        exact this
      have hd1 : (parseE a2 != 0) = true := by simpa using hp
      have hd2 : (parseE a2 == 0) = false := by simpa using hp
      refine (hpc _).mono ?_
      rintro e v1 ⟨rfl, hc1⟩
      have kb1 := (unhide HB).trans (hc1.mono hszB)
      have ks1 : w.heap.size ≤ v1.heap.size := kb1.size
      have hk0 := kept_new v1 zeroHd 24
      simp only [zeroHd] at hk0
      have KB := hide kb1
      have HK := hide hk0
      clear hc1 kb1 hk0 hpc
      go_wp2_with fail
      refine (build_any zeroHd ⟨#[]⟩ _ zero_wf (by decide)).mono ?_
      rintro e v2 ⟨rfl, hc2⟩
      have hk1 := (unhide HK).on hc2
      have q0 := hk1.at_ 0 (by decide)
      have q1 := hk1.at_ 1 (by decide)
      have q2 := hk1.at_ 2 (by decide)
      have q3 := hk1.at_ 3 (by decide)
      have q4 := hk1.at_ 4 (by decide)
      have q5 := hk1.at_ 5 (by decide)
      have q6 := hk1.at_ 6 (by decide)
      have q7 := hk1.at_ 7 (by decide)
      simp only [hcell] at q0 q1 q2 q3 q4 q5 q6 q7
      have HK := hide hk1
      clear hk1 hc2
      go_wp2_with fail
      go_ret
      exact ⟨rfl, (unhide KB).trans ((unhide HK).below.mono ks1)⟩
    case pos =>
      have PP := parsed_of hp
      have hpH : parseH a2 = pH a2 := if_pos hp
      have hpS : parseS a2 = pB a2 := if_pos hp
      have hpc : ∀ u, Calls Try.prog 20 #[.string a2] u fun e u' => e = .returned (.tuple #[(pH a2).val, .string (pB a2), .int .i64 0]) ∧ Below u.heap.size u u' := fun u => by
        have := parse_any a2 u hxs
        rw [hpH, hpS, hp] at this
        exact this
      have hwf := pH_wf a2 z2
      have hbz := parseS_size a2
      rw [hpS] at hbz
      have hbz2 : (pB a2).size ≤ 140737488355328 := by omega
      clear hpH hpS hp
      refine (hpc _).mono ?_
      rintro e v1 ⟨rfl, hc1⟩
      have kb1 := (unhide HB).trans (hc1.mono hszB)
      have ks1 : w.heap.size ≤ v1.heap.size := kb1.size
      have hk0 := kept_new v1 (pH a2) 24
      have KB := hide kb1
      have HK := hide hk0
      clear hc1 kb1 hk0 hpc
      go_wp2_with fail
      refine (build_any (pH a2) (pB a2) _ hwf hbz2).mono ?_
      rintro e v2 ⟨rfl, hc2⟩
      have hk1 := (unhide HK).on hc2
      have kb2 := (unhide KB).trans (hk1.below.mono ks1)
      have ks2 := kb2.size
      have KB := hide kb2
      clear hk1 hc2 HK kb2
      by_cases hl : 1500 < (a2.size : Int)
      · have hd3 : decide (1500 < (a2.size : Int)) = true := by simpa using hl
        clear hl
        go_wp2_with fail
        go_ret
        exact ⟨rfl, unhide KB⟩
      · have hd3 : decide (1500 < (a2.size : Int)) = false := by simpa using hl
        have he : buildE (pH a2) (pB a2) = 0 := buildE_of (pH_right PP) (by
          have h1 := pO_size PP
          have h2 := pB_size PP
          show 20 + ((pO a2).size : Int) + (pB a2).size ≤ 1500
          omega)
        rw [buildS_of he, he]
        obtain ⟨x0, x1, x3, x5⟩ := back_parts PP z2
        have h20 := PP.z20
        clear he hl hwf hbz hbz2 PP
        generalize built (pH a2) (pB a2) = U at *
        generalize hP1 : a2.extract 0 16 = P1 at *
        generalize hP2 : a2.extract 18 a2.size = P2 at *
        have x2 := hP1
        have x4 := hP2
        rw [← x0] at x3
        have u16 : (16 : Int) ≤ U.size := by omega
        have u18 : (18 : Int) ≤ U.size := by omega
        have u16' : (16 : Int) ≤ a2.size := by omega
        have u18' : (18 : Int) ≤ a2.size := by omega
        have hd4 : ((U.size : Int) != (a2.size : Int)) = false := by simp; omega
        clear hP1 hP2
        go_wp2_with fail
        refine wp_region_grow (by kernel_rfl) [.bool true, .bool true, .string U, .string P1, .string a2, .string P1, .bool true, .bool true, .bool true, .string U, .string P2, .string a2, .string P2, .bool true, .bool true, .bool true, .string U, .string ⟨#[0, 0]⟩, .bool true, .bool true, .bool true] (by kernel_rfl) ?op ?fin
        case op =>
          intro i o bx u ho hbel hS
          match i, ho with
          | 0, ho =>
            obtain rfl := Option.some.inj ho
            have d7 : bx.tmps.getD 7 undef = .bool true := hS.base 7 (by kernel_rfl)
            refine .inl ⟨rfl, ends_value' (c := .bool true) ?_⟩
            simp [execOp, Act.eval, d7]
          | 1, ho =>
            obtain rfl := Option.some.inj ho
            have d89 : bx.tmps.getD 89 undef = .bool true := hS.dep 0 89 (by kernel_rfl) (by kernel_rfl)
            refine .inl ⟨rfl, ends_value' (c := .bool true) ?_⟩
            simp [execOp, Act.eval, d89]
          | 2, ho =>
            obtain rfl := Option.some.inj ho
            have d16 : bx.tmps.getD 16 undef = .string U := hS.base 16 (by kernel_rfl)
            have gd : bx.tmps.getD 90 undef = .bool true := hS.dep 1 90 (by kernel_rfl) (by kernel_rfl)
            refine .inl ⟨wanted_yes (j := 1) (t := 90) (c := true) (by kernel_rfl) (by kernel_rfl) gd, ends_value' (c := .string U) ?_⟩
            simp [execOp, Act.eval, d16]
          | 3, ho =>
            obtain rfl := Option.some.inj ho
            have d91 : bx.tmps.getD 91 undef = .string U := hS.dep 2 91 (by kernel_rfl) (by kernel_rfl)
            have gd : bx.tmps.getD 90 undef = .bool true := hS.dep 1 90 (by kernel_rfl) (by kernel_rfl)
            refine .inl ⟨wanted_yes (j := 1) (t := 90) (c := true) (by kernel_rfl) (by kernel_rfl) gd, ends_value' (c := .string P1) ?_⟩
            simp [Act.eval, d91, go_sem, x1, u16]
          | 4, ho =>
            obtain rfl := Option.some.inj ho
            have d2 : bx.tmps.getD 2 undef = .string a2 := hS.base 2 (by kernel_rfl)
            have gd : bx.tmps.getD 90 undef = .bool true := hS.dep 1 90 (by kernel_rfl) (by kernel_rfl)
            refine .inl ⟨wanted_yes (j := 1) (t := 90) (c := true) (by kernel_rfl) (by kernel_rfl) gd, ends_value' (c := .string a2) ?_⟩
            simp [execOp, Act.eval, d2]
          | 5, ho =>
            obtain rfl := Option.some.inj ho
            have d93 : bx.tmps.getD 93 undef = .string a2 := hS.dep 4 93 (by kernel_rfl) (by kernel_rfl)
            have gd : bx.tmps.getD 90 undef = .bool true := hS.dep 1 90 (by kernel_rfl) (by kernel_rfl)
            refine .inl ⟨wanted_yes (j := 1) (t := 90) (c := true) (by kernel_rfl) (by kernel_rfl) gd, ends_value' (c := .string P1) ?_⟩
            simp [Act.eval, d93, go_sem, x2, u16']
          | 6, ho =>
            obtain rfl := Option.some.inj ho
            have d92 : bx.tmps.getD 92 undef = .string P1 := hS.dep 3 92 (by kernel_rfl) (by kernel_rfl)
            have d94 : bx.tmps.getD 94 undef = .string P1 := hS.dep 5 94 (by kernel_rfl) (by kernel_rfl)
            have gd : bx.tmps.getD 90 undef = .bool true := hS.dep 1 90 (by kernel_rfl) (by kernel_rfl)
            refine .inl ⟨wanted_yes (j := 1) (t := 90) (c := true) (by kernel_rfl) (by kernel_rfl) gd, ends_value' (c := .bool true) ?_⟩
            simp [Act.eval, d92, d94, go_sem]
          | 7, ho =>
            obtain rfl := Option.some.inj ho
            have d90 : bx.tmps.getD 90 undef = .bool true := hS.dep 1 90 (by kernel_rfl) (by kernel_rfl)
            have d95 : bx.tmps.getD 95 undef = .bool true := hS.dep 6 95 (by kernel_rfl) (by kernel_rfl)
            refine .inl ⟨rfl, ends_value' (c := .bool true) ?_⟩
            simp [Act.eval, d90, d95, go_sem]
          | 8, ho =>
            obtain rfl := Option.some.inj ho
            have d96 : bx.tmps.getD 96 undef = .bool true := hS.dep 7 96 (by kernel_rfl) (by kernel_rfl)
            refine .inl ⟨rfl, ends_value' (c := .bool true) ?_⟩
            simp [execOp, Act.eval, d96]
          | 9, ho =>
            obtain rfl := Option.some.inj ho
            have d16 : bx.tmps.getD 16 undef = .string U := hS.base 16 (by kernel_rfl)
            have gd : bx.tmps.getD 97 undef = .bool true := hS.dep 8 97 (by kernel_rfl) (by kernel_rfl)
            refine .inl ⟨wanted_yes (j := 8) (t := 97) (c := true) (by kernel_rfl) (by kernel_rfl) gd, ends_value' (c := .string U) ?_⟩
            simp [execOp, Act.eval, d16]
          | 10, ho =>
            obtain rfl := Option.some.inj ho
            have d98 : bx.tmps.getD 98 undef = .string U := hS.dep 9 98 (by kernel_rfl) (by kernel_rfl)
            have gd : bx.tmps.getD 97 undef = .bool true := hS.dep 8 97 (by kernel_rfl) (by kernel_rfl)
            refine .inl ⟨wanted_yes (j := 8) (t := 97) (c := true) (by kernel_rfl) (by kernel_rfl) gd, ends_value' (c := .string P2) ?_⟩
            simp [Act.eval, d98, go_sem, x3, u18]
          | 11, ho =>
            obtain rfl := Option.some.inj ho
            have d2 : bx.tmps.getD 2 undef = .string a2 := hS.base 2 (by kernel_rfl)
            have gd : bx.tmps.getD 97 undef = .bool true := hS.dep 8 97 (by kernel_rfl) (by kernel_rfl)
            refine .inl ⟨wanted_yes (j := 8) (t := 97) (c := true) (by kernel_rfl) (by kernel_rfl) gd, ends_value' (c := .string a2) ?_⟩
            simp [execOp, Act.eval, d2]
          | 12, ho =>
            obtain rfl := Option.some.inj ho
            have d100 : bx.tmps.getD 100 undef = .string a2 := hS.dep 11 100 (by kernel_rfl) (by kernel_rfl)
            have gd : bx.tmps.getD 97 undef = .bool true := hS.dep 8 97 (by kernel_rfl) (by kernel_rfl)
            refine .inl ⟨wanted_yes (j := 8) (t := 97) (c := true) (by kernel_rfl) (by kernel_rfl) gd, ends_value' (c := .string P2) ?_⟩
            simp [Act.eval, d100, go_sem, x4, u18']
          | 13, ho =>
            obtain rfl := Option.some.inj ho
            have d99 : bx.tmps.getD 99 undef = .string P2 := hS.dep 10 99 (by kernel_rfl) (by kernel_rfl)
            have d101 : bx.tmps.getD 101 undef = .string P2 := hS.dep 12 101 (by kernel_rfl) (by kernel_rfl)
            have gd : bx.tmps.getD 97 undef = .bool true := hS.dep 8 97 (by kernel_rfl) (by kernel_rfl)
            refine .inl ⟨wanted_yes (j := 8) (t := 97) (c := true) (by kernel_rfl) (by kernel_rfl) gd, ends_value' (c := .bool true) ?_⟩
            simp [Act.eval, d99, d101, go_sem]
          | 14, ho =>
            obtain rfl := Option.some.inj ho
            have d97 : bx.tmps.getD 97 undef = .bool true := hS.dep 8 97 (by kernel_rfl) (by kernel_rfl)
            have d102 : bx.tmps.getD 102 undef = .bool true := hS.dep 13 102 (by kernel_rfl) (by kernel_rfl)
            refine .inl ⟨rfl, ends_value' (c := .bool true) ?_⟩
            simp [Act.eval, d97, d102, go_sem]
          | 15, ho =>
            obtain rfl := Option.some.inj ho
            have d103 : bx.tmps.getD 103 undef = .bool true := hS.dep 14 103 (by kernel_rfl) (by kernel_rfl)
            refine .inl ⟨rfl, ends_value' (c := .bool true) ?_⟩
            simp [execOp, Act.eval, d103]
          | 16, ho =>
            obtain rfl := Option.some.inj ho
            have d16 : bx.tmps.getD 16 undef = .string U := hS.base 16 (by kernel_rfl)
            have gd : bx.tmps.getD 104 undef = .bool true := hS.dep 15 104 (by kernel_rfl) (by kernel_rfl)
            refine .inl ⟨wanted_yes (j := 15) (t := 104) (c := true) (by kernel_rfl) (by kernel_rfl) gd, ends_value' (c := .string U) ?_⟩
            simp [execOp, Act.eval, d16]
          | 17, ho =>
            obtain rfl := Option.some.inj ho
            have d105 : bx.tmps.getD 105 undef = .string U := hS.dep 16 105 (by kernel_rfl) (by kernel_rfl)
            have gd : bx.tmps.getD 104 undef = .bool true := hS.dep 15 104 (by kernel_rfl) (by kernel_rfl)
            refine .inl ⟨wanted_yes (j := 15) (t := 104) (c := true) (by kernel_rfl) (by kernel_rfl) gd, ends_value' (c := .string ⟨#[0, 0]⟩) ?_⟩
            simp [Act.eval, d105, go_sem, x5, u18]
          | 18, ho =>
            obtain rfl := Option.some.inj ho
            have d106 : bx.tmps.getD 106 undef = .string ⟨#[0, 0]⟩ := hS.dep 17 106 (by kernel_rfl) (by kernel_rfl)
            have gd : bx.tmps.getD 104 undef = .bool true := hS.dep 15 104 (by kernel_rfl) (by kernel_rfl)
            refine .inl ⟨wanted_yes (j := 15) (t := 104) (c := true) (by kernel_rfl) (by kernel_rfl) gd, ends_value' (c := .bool true) ?_⟩
            simp [Act.eval, d106, go_sem]
          | 19, ho =>
            obtain rfl := Option.some.inj ho
            have d104 : bx.tmps.getD 104 undef = .bool true := hS.dep 15 104 (by kernel_rfl) (by kernel_rfl)
            have d107 : bx.tmps.getD 107 undef = .bool true := hS.dep 18 107 (by kernel_rfl) (by kernel_rfl)
            refine .inl ⟨rfl, ends_value' (c := .bool true) ?_⟩
            simp [Act.eval, d104, d107, go_sem]
          | 20, ho =>
            obtain rfl := Option.some.inj ho
            have d108 : bx.tmps.getD 108 undef = .bool true := hS.dep 19 108 (by kernel_rfl) (by kernel_rfl)
            refine .inl ⟨rfl, ends_value' (c := .bool true) ?_⟩
            simp [execOp, Act.eval, d108]
          | n + 21, ho => exact absurd ho (by simp)
        case fin =>
          intro u hbel
          simp [putAll, dstAt, Act.put]
          go_wp2_with fail
          go_ret
          exact ⟨rfl, (unhide KB).drew.trans (hbel.mono (by omega))⟩

theorem own : ownKnob Try.prog.godebug = none := by kernel_rfl
set_option maxRecDepth 100000 in
theorem lifted (os : Os) (started : os.Started) (H : Type) (enc : TypeId × Value → H) :
    ReturnsInHanded {} Try.checked os 5 .any (Rows.tcpBackSpec.pre6 enc Try.prog Try.f5 Rows.tcpBackRow.domain false) (Rows.tcpBackSpec.post enc Try.prog Try.f5 false true false false) := by
  refine returnsInHanded_of_change_sized (C := Try.checked) own started (by kernel_rfl) Try.func5
    (ChangeSpec.witness6 (enc := enc) (C := Try.checked) false ⟨#[], #[.agg #[.int .i64 0, .int .i64 0, .int .u32 0, .int .u32 0, .int .i64 0, .int .i64 0, .int .i64 0, .string ByteArray.empty], .string ByteArray.empty, .string ByteArray.empty], []⟩ 8 (by kernel_rfl) (by kernel_rfl) (by kernel_rfl) (by kernel_rfl)) ?_
  intro W base args ds gs before hval0 hW hcnd hsz _
  have hval : ∀ (j : Nat) t v, Try.f5.params[j]? = some t → args[j]? = some v → Value.okWide Try.prog W .any base t v := hval0
  have hW' := hW
  obtain ⟨p, q, hA0, hV, rfl, hfz, hnd⟩ := hW
  have hA : DataW.TrodAll enc Try.prog W 0 (fun _ => true) true Try.f5.params.toList args.toList ds p := hA0
  rw [Try.params5] at hA hval
  obtain ⟨v0, vs0, d0, ds0, p0, q0, hargs, rfl, rfl, h0, r0⟩ := trodAll_cons hA
  obtain ⟨v1, vs1, d1, ds1, p1, q1, rfl, rfl, rfl, h1, r1⟩ := trodAll_cons r0
  obtain ⟨v2, vs2, d2, ds2, p2, q2, rfl, rfl, rfl, h2, r2⟩ := trodAll_cons r1
  obtain ⟨rfl, rfl, rfl⟩ := trodAll_nil r2
  obtain rfl : args = #[v0, v1, v2] := by cases args; simp_all
  obtain ⟨rfl, rfl⟩ := trodVars_none hV
  obtain ⟨a0, rfl, rfl, rfl, f0⟩ := open_head (hval 0 24 v0 rfl rfl) h0
  obtain ⟨a1, rfl, rfl, rfl, w1⟩ := open_string Try.underlying9 (hval 1 9 v1 rfl rfl) h1
  obtain ⟨a2, rfl, rfl, rfl, w2⟩ := open_string Try.underlying9 (hval 2 9 v2 rfl rfl) h2
  clear hA0 hval0
  simp only [List.append_nil] at hW'
  have w0 : a0.Wf := f0.wf (sized_head hsz (j := 0) rfl rfl)
  have z1 : a1.size ≤ 140737488355328 := by
    have hq : a1.data.toList.length ≤ reachBytes := sized_string hsz (j := 1) (t := 9) rfl rfl
    have e : a1.data.toList.length = a1.size := by rw [Array.length_toList]; rfl
    rw [e] at hq
    exact Nat.le_trans hq (by decide)
  have z2 : a2.size ≤ 140737488355328 := by
    have hq : a2.data.toList.length ≤ reachBytes := sized_string hsz (j := 2) (t := 9) rfl rfl
    have e : a2.data.toList.length = a2.size := by rw [Array.length_toList]; rfl
    rw [e] at hq
    exact Nat.le_trans hq (by decide)
  refine (walk W a0 w0 a1 z1 a2 z2).mono fun e W' ⟨he, bel⟩ => ?_
  subst he
  exact ⟨_, rfl, _, _, _, [], _, [], hW', (trodAll_cons_mk (shut_bool Try.underlying4 _) trodAll_mk0), (trodAll_cons_mk (shut_head a0 f0) (trodAll_cons_mk (shut_string Try.underlying9 w1) (trodAll_cons_mk (shut_string Try.underlying9 w2) trodAll_mk0))), rfl, bel.frame _, fun h => by cases h⟩

theorem over : Rows.tcpBackRow.holds Try.pinned (OpenSpec.ofChange Rows.tcpBackSpec) :=
  OpenClaim.holds_of_wide 5 Try.f5 rfl rfl rfl rfl rfl rfl rfl ⟨rfl, rfl, rfl, rfl, rfl⟩ rfl rfl rfl rfl rfl (by kernel_rfl) Try.func5 (by kernel_rfl)
    (of_decide_eq_true (by kernel_rfl)) (by unfold Func.isWrapper; first | (rw [if_pos (by decide +kernel)]; kernel_rfl) | (rw [if_neg (by decide +kernel)]; exact ⟨rfl, rfl⟩))
    (fun os started H enc _ => lifted os started H enc)

theorem proved : Rows.TcpBackSaid := over
#print axioms proved
end Go.Proofs.Ytgfmpcfdggcifaa.tcpBack
