/- The law TcpParses returns true for every text, header, body, and byte that is another one: what Parse answers is what the reference answers. -/
import Derived.Test.YtgfmpcfdggcifaaRows
import Derived.OpenShut
import Derived.ShutString
import Derived.ChangeOld
import Derived.Below
import Derived.SizedLaws
import Derived.Test.YtgfmpcfdggcifaaTcOpen
import Derived.Test.YtgfmpcfdggcifaaTcRefP
import Derived.Test.YtgfmpcfdggcifaaTcEx
import Derived.Test.YtgfmpcfdggcifaaTcBytes
namespace Go.Proofs.Ytgfmpcfdggcifaa.tcpParses
open Go.ChangeShapes Go.WideShapes Go.ChangeAt Go.RowKit
open Go.ChangeMaps (open_string shut_string)
set_option linter.unusedVariables false
theorem hdrew {V u : World} {B : Nat} (hb : Below B V.drew u) : Below B V u := ⟨hb.os, hb.tape, hb.output, hb.size, hb.block⟩
set_option maxHeartbeats 8000000 in
set_option maxRecDepth 100000 in
theorem walk (w : World) (a0 : ByteArray) (z0 : a0.size ≤ 140737488355328) (a1 : Hd) (w1 : a1.Wf) (a2 : ByteArray) (z2 : a2.size ≤ 140737488355328) (a3 : Bool) (a4 : Int) (w4 : (Lit.int .i64 a4).wf = true) (a5 : Int) (w5 : (Lit.int .u8 a5).wf = true) :
    Calls Try.prog 4 #[.string a0, a1.val, .string a2, .bool a3, .int .i64 a4, .int .u8 a5] w fun e w' => e = .returned (.bool true) ∧ Below w.heap.size w w' := by
  obtain ⟨x0, x1⟩ := bounds_i64 w4
  obtain ⟨y0, y1⟩ := bounds_u8 w5
  have hk0 := kept_new w a1 24
  go_enter Try.func4, Try.ntmps4
  go_wp2_with fail
  refine (examples_ok _).mono ?_
  rintro e w1' ⟨rfl, hb1⟩
  have hk1 := hk0.on hb1
  clear hb1 hk0
  have q0 := hk1.at_ 0 (by decide)
  have q1 := hk1.at_ 1 (by decide)
  have q2 := hk1.at_ 2 (by decide)
  have q3 := hk1.at_ 3 (by decide)
  have q4 := hk1.at_ 4 (by decide)
  have q5 := hk1.at_ 5 (by decide)
  have q6 := hk1.at_ 6 (by decide)
  have q7 := hk1.at_ 7 (by decide)
  simp only [hcell] at q0 q1 q2 q3 q4 q5 q6 q7
  have HK := hide hk1
  clear hk1
  go_wp2_with fail
  refine (ref_any a1 _).mono ?_
  rintro e w2 ⟨rfl, hb2⟩
  have hk2 := (unhide HK).on hb2
  clear HK hb2
  clear q0 q1 q2 q3 q4 q5 q6 q7
  have HK := hide hk2
  clear hk2
  go_wp2_with fail
  refine (rbuild_any a1 a2 _ w1 z2).mono ?_
  rintro e w3 ⟨rfl, hb3⟩
  have hk3 := (unhide HK).on hb3
  clear HK hb3
  have HB := hide hk3.below
  have hsz3 := hk3.below.size
  clear hk3
  by_cases hown : a3 = true ∧ buildE a1 a2 = 0
  case neg =>
    have hxs : a0.size ≤ 281474976710656 := by omega
    cases a3 with
    | false =>
      clear hown
      go_wp2_with fail
      refine (parse_any a0 _ hxs).mono ?_
      rintro e v1 ⟨rfl, hc1⟩
      have kb1 := (unhide HB).trans (hc1.mono hsz3)
      have ks1 : w.heap.size ≤ v1.heap.size := kb1.size
      have kn1 := (newHd v1 (parseH a0) 24).at_
      have kb2 := kb1.alloc ks1 (.cells #[.int .i64 (parseH a0).src, .int .i64 (parseH a0).dst, .int .u32 (parseH a0).seq, .int .u32 (parseH a0).ack, .int .i64 (parseH a0).flags, .int .i64 (parseH a0).win, .int .i64 (parseH a0).urg, .string (parseH a0).opts] 24)
      have KN1 := hide kn1
      have KB := hide kb2
      clear hc1 kb1 kn1 kb2
      go_wp2_with fail
      refine (rparse_any a0 _ hxs).mono ?_
      rintro e v2 ⟨rfl, hc2⟩
      have ks2 : v1.heap.size + 1 ≤ v2.heap.size := by have := hc2.size; simp at this; omega
      have kn1 := (unhide KN1).on hc2 (by simp)
      have kb2 := (unhide KB).trans (hc2.mono (by simp; omega))
      have kn3 := kn1.on (alloc_on v2 (.cells #[.int .i64 (parseH a0).src, .int .i64 (parseH a0).dst, .int .u32 (parseH a0).seq, .int .u32 (parseH a0).ack, .int .i64 (parseH a0).flags, .int .i64 (parseH a0).win, .int .i64 (parseH a0).urg, .string (parseH a0).opts] 31)) (by omega)
      have kn2 := (newHd v2 (parseH a0) 31).at_
      have kb3 := kb2.alloc (by omega) (.cells #[.int .i64 (parseH a0).src, .int .i64 (parseH a0).dst, .int .u32 (parseH a0).seq, .int .u32 (parseH a0).ack, .int .i64 (parseH a0).flags, .int .i64 (parseH a0).win, .int .i64 (parseH a0).urg, .string (parseH a0).opts] 31)
      have hza : (v2.alloc (.cells #[.int .i64 (parseH a0).src, .int .i64 (parseH a0).dst, .int .u32 (parseH a0).seq, .int .u32 (parseH a0).ack, .int .i64 (parseH a0).flags, .int .i64 (parseH a0).win, .int .i64 (parseH a0).urg, .string (parseH a0).opts] 31)).heap.size = v2.heap.size + 1 := by simp
      clear KN1 KB hc2 kn1 kb2
      have K1 := hide kn3
      have K2 := hide kn2
      have KB := hide kb3
      clear kn3 kn2 kb3
      go_wp2_with fail
      clear hxs
      generalize v2.alloc (.cells #[.int .i64 (parseH a0).src, .int .i64 (parseH a0).dst, .int .u32 (parseH a0).seq, .int .u32 (parseH a0).ack, .int .i64 (parseH a0).flags, .int .i64 (parseH a0).win, .int .i64 (parseH a0).urg, .string (parseH a0).opts] 31) = VV at *
      generalize parseH a0 = Y at *
      generalize parseS a0 = YS at *
      generalize parseE a0 = YE at *
      refine wp_region_grow (by kernel_rfl) [.bool true, .bool true, .agg #[.int .i64 Y.src, .int .i64 Y.dst, .int .u32 Y.seq, .int .u32 Y.ack, .int .i64 Y.flags, .int .i64 Y.win, .int .i64 Y.urg, .string Y.opts], .agg #[.int .i64 Y.src, .int .i64 Y.dst, .int .u32 Y.seq, .int .u32 Y.ack, .int .i64 Y.flags, .int .i64 Y.win, .int .i64 Y.urg, .string Y.opts], .agg #[.int .i64 Y.src, .int .i64 Y.dst, .int .u32 Y.seq, .int .u32 Y.ack, .int .i64 Y.flags, .int .i64 Y.win, .int .i64 Y.urg, .string Y.opts], .bool true, .bool true, .bool true, .string YS, .string YS, .bool true, .bool true, .bool true, .int .i64 YE, .int .i64 YE, .bool true, .bool true, .bool true] (by kernel_rfl) ?op ?fin
      case op =>
        intro i o bx u ho hbel hS
        match i, ho with
        | 0, ho =>
          obtain rfl := Option.some.inj ho
          have d13 : bx.tmps.getD 13 undef = .bool true := hS.base 13 (by kernel_rfl)
          refine .inl ⟨rfl, ends_value' (c := .bool true) ?_⟩
          simp [execOp, Act.eval, d13]
        | 1, ho =>
          obtain rfl := Option.some.inj ho
          have d74 : bx.tmps.getD 74 undef = .bool true := hS.dep 0 74 (by kernel_rfl) (by kernel_rfl)
          refine .inl ⟨rfl, ends_value' (c := .bool true) ?_⟩
          simp [execOp, Act.eval, d74]
        | 2, ho =>
          obtain rfl := Option.some.inj ho
          have d17 : bx.tmps.getD 17 undef = .pointer (some ⟨v1.heap.size, 0, none⟩) := hS.base 17 (by kernel_rfl)
          have gd : bx.tmps.getD 75 undef = .bool true := hS.dep 1 75 (by kernel_rfl) (by kernel_rfl)
          have g := (unhide K1).on (hdrew hbel) (by omega)
          have g0 := g 0 (by decide)
          have g1 := g 1 (by decide)
          have g2 := g 2 (by decide)
          have g3 := g 3 (by decide)
          have g4 := g 4 (by decide)
          have g5 := g 5 (by decide)
          have g6 := g 6 (by decide)
          have g7 := g 7 (by decide)
          simp only [hcell] at g0 g1 g2 g3 g4 g5 g6 g7
          refine .inl ⟨wanted_yes (j := 1) (t := 75) (c := true) (by kernel_rfl) (by kernel_rfl) gd, ends_value' (c := .agg #[.int .i64 Y.src, .int .i64 Y.dst, .int .u32 Y.seq, .int .u32 Y.ack, .int .i64 Y.flags, .int .i64 Y.win, .int .i64 Y.urg, .string Y.opts]) ?_⟩
          simp [Act.eval, d17, go_sem, g0, g1, g2, g3, g4, g5, g6, g7]
        | 3, ho =>
          obtain rfl := Option.some.inj ho
          have d76 : bx.tmps.getD 76 undef = .agg #[.int .i64 Y.src, .int .i64 Y.dst, .int .u32 Y.seq, .int .u32 Y.ack, .int .i64 Y.flags, .int .i64 Y.win, .int .i64 Y.urg, .string Y.opts] := hS.dep 2 76 (by kernel_rfl) (by kernel_rfl)
          have gd : bx.tmps.getD 75 undef = .bool true := hS.dep 1 75 (by kernel_rfl) (by kernel_rfl)
          refine .inl ⟨wanted_yes (j := 1) (t := 75) (c := true) (by kernel_rfl) (by kernel_rfl) gd, ends_call' (c := .agg #[.int .i64 Y.src, .int .i64 Y.dst, .int .u32 Y.seq, .int .u32 Y.ack, .int .i64 Y.flags, .int .i64 Y.win, .int .i64 Y.urg, .string Y.opts]) (f := 13) (args := #[Y.val]) ?_ (ref_any Y u)⟩
          simp [Act.eval, d76, go_sem]
        | 4, ho =>
          obtain rfl := Option.some.inj ho
          have d20 : bx.tmps.getD 20 undef = .pointer (some ⟨v2.heap.size, 0, none⟩) := hS.base 20 (by kernel_rfl)
          have gd : bx.tmps.getD 75 undef = .bool true := hS.dep 1 75 (by kernel_rfl) (by kernel_rfl)
          have g := (unhide K2).on (hdrew hbel) (by omega)
          have g0 := g 0 (by decide)
          have g1 := g 1 (by decide)
          have g2 := g 2 (by decide)
          have g3 := g 3 (by decide)
          have g4 := g 4 (by decide)
          have g5 := g 5 (by decide)
          have g6 := g 6 (by decide)
          have g7 := g 7 (by decide)
          simp only [hcell] at g0 g1 g2 g3 g4 g5 g6 g7
          refine .inl ⟨wanted_yes (j := 1) (t := 75) (c := true) (by kernel_rfl) (by kernel_rfl) gd, ends_value' (c := .agg #[.int .i64 Y.src, .int .i64 Y.dst, .int .u32 Y.seq, .int .u32 Y.ack, .int .i64 Y.flags, .int .i64 Y.win, .int .i64 Y.urg, .string Y.opts]) ?_⟩
          simp [Act.eval, d20, go_sem, g0, g1, g2, g3, g4, g5, g6, g7]
        | 5, ho =>
          obtain rfl := Option.some.inj ho
          have d77 : bx.tmps.getD 77 undef = .agg #[.int .i64 Y.src, .int .i64 Y.dst, .int .u32 Y.seq, .int .u32 Y.ack, .int .i64 Y.flags, .int .i64 Y.win, .int .i64 Y.urg, .string Y.opts] := hS.dep 3 77 (by kernel_rfl) (by kernel_rfl)
          have d78 : bx.tmps.getD 78 undef = .agg #[.int .i64 Y.src, .int .i64 Y.dst, .int .u32 Y.seq, .int .u32 Y.ack, .int .i64 Y.flags, .int .i64 Y.win, .int .i64 Y.urg, .string Y.opts] := hS.dep 4 78 (by kernel_rfl) (by kernel_rfl)
          have gd : bx.tmps.getD 75 undef = .bool true := hS.dep 1 75 (by kernel_rfl) (by kernel_rfl)
          refine .inl ⟨wanted_yes (j := 1) (t := 75) (c := true) (by kernel_rfl) (by kernel_rfl) gd, ends_value' (c := .bool true) ?_⟩
          simp [Act.eval, d77, d78, go_sem]
        | 6, ho =>
          obtain rfl := Option.some.inj ho
          have d75 : bx.tmps.getD 75 undef = .bool true := hS.dep 1 75 (by kernel_rfl) (by kernel_rfl)
          have d79 : bx.tmps.getD 79 undef = .bool true := hS.dep 5 79 (by kernel_rfl) (by kernel_rfl)
          refine .inl ⟨rfl, ends_value' (c := .bool true) ?_⟩
          simp [Act.eval, d75, d79, go_sem]
        | 7, ho =>
          obtain rfl := Option.some.inj ho
          have d80 : bx.tmps.getD 80 undef = .bool true := hS.dep 6 80 (by kernel_rfl) (by kernel_rfl)
          refine .inl ⟨rfl, ends_value' (c := .bool true) ?_⟩
          simp [execOp, Act.eval, d80]
        | 8, ho =>
          obtain rfl := Option.some.inj ho
          have d18 : bx.tmps.getD 18 undef = .string YS := hS.base 18 (by kernel_rfl)
          have gd : bx.tmps.getD 81 undef = .bool true := hS.dep 7 81 (by kernel_rfl) (by kernel_rfl)
          refine .inl ⟨wanted_yes (j := 7) (t := 81) (c := true) (by kernel_rfl) (by kernel_rfl) gd, ends_value' (c := .string YS) ?_⟩
          simp [execOp, Act.eval, d18]
        | 9, ho =>
          obtain rfl := Option.some.inj ho
          have d21 : bx.tmps.getD 21 undef = .string YS := hS.base 21 (by kernel_rfl)
          have gd : bx.tmps.getD 81 undef = .bool true := hS.dep 7 81 (by kernel_rfl) (by kernel_rfl)
          refine .inl ⟨wanted_yes (j := 7) (t := 81) (c := true) (by kernel_rfl) (by kernel_rfl) gd, ends_value' (c := .string YS) ?_⟩
          simp [execOp, Act.eval, d21]
        | 10, ho =>
          obtain rfl := Option.some.inj ho
          have d82 : bx.tmps.getD 82 undef = .string YS := hS.dep 8 82 (by kernel_rfl) (by kernel_rfl)
          have d83 : bx.tmps.getD 83 undef = .string YS := hS.dep 9 83 (by kernel_rfl) (by kernel_rfl)
          have gd : bx.tmps.getD 81 undef = .bool true := hS.dep 7 81 (by kernel_rfl) (by kernel_rfl)
          refine .inl ⟨wanted_yes (j := 7) (t := 81) (c := true) (by kernel_rfl) (by kernel_rfl) gd, ends_value' (c := .bool true) ?_⟩
          simp [Act.eval, d82, d83, go_sem]
        | 11, ho =>
          obtain rfl := Option.some.inj ho
          have d81 : bx.tmps.getD 81 undef = .bool true := hS.dep 7 81 (by kernel_rfl) (by kernel_rfl)
          have d84 : bx.tmps.getD 84 undef = .bool true := hS.dep 10 84 (by kernel_rfl) (by kernel_rfl)
          refine .inl ⟨rfl, ends_value' (c := .bool true) ?_⟩
          simp [Act.eval, d81, d84, go_sem]
        | 12, ho =>
          obtain rfl := Option.some.inj ho
          have d85 : bx.tmps.getD 85 undef = .bool true := hS.dep 11 85 (by kernel_rfl) (by kernel_rfl)
          refine .inl ⟨rfl, ends_value' (c := .bool true) ?_⟩
          simp [execOp, Act.eval, d85]
        | 13, ho =>
          obtain rfl := Option.some.inj ho
          have d19 : bx.tmps.getD 19 undef = .int .i64 YE := hS.base 19 (by kernel_rfl)
          have gd : bx.tmps.getD 86 undef = .bool true := hS.dep 12 86 (by kernel_rfl) (by kernel_rfl)
          refine .inl ⟨wanted_yes (j := 12) (t := 86) (c := true) (by kernel_rfl) (by kernel_rfl) gd, ends_value' (c := .int .i64 YE) ?_⟩
          simp [execOp, Act.eval, d19]
        | 14, ho =>
          obtain rfl := Option.some.inj ho
          have d22 : bx.tmps.getD 22 undef = .int .i64 YE := hS.base 22 (by kernel_rfl)
          have gd : bx.tmps.getD 86 undef = .bool true := hS.dep 12 86 (by kernel_rfl) (by kernel_rfl)
          refine .inl ⟨wanted_yes (j := 12) (t := 86) (c := true) (by kernel_rfl) (by kernel_rfl) gd, ends_value' (c := .int .i64 YE) ?_⟩
          simp [execOp, Act.eval, d22]
        | 15, ho =>
          obtain rfl := Option.some.inj ho
          have d87 : bx.tmps.getD 87 undef = .int .i64 YE := hS.dep 13 87 (by kernel_rfl) (by kernel_rfl)
          have d88 : bx.tmps.getD 88 undef = .int .i64 YE := hS.dep 14 88 (by kernel_rfl) (by kernel_rfl)
          have gd : bx.tmps.getD 86 undef = .bool true := hS.dep 12 86 (by kernel_rfl) (by kernel_rfl)
          refine .inl ⟨wanted_yes (j := 12) (t := 86) (c := true) (by kernel_rfl) (by kernel_rfl) gd, ends_value' (c := .bool true) ?_⟩
          simp [Act.eval, d87, d88, go_sem]
        | 16, ho =>
          obtain rfl := Option.some.inj ho
          have d86 : bx.tmps.getD 86 undef = .bool true := hS.dep 12 86 (by kernel_rfl) (by kernel_rfl)
          have d89 : bx.tmps.getD 89 undef = .bool true := hS.dep 15 89 (by kernel_rfl) (by kernel_rfl)
          refine .inl ⟨rfl, ends_value' (c := .bool true) ?_⟩
          simp [Act.eval, d86, d89, go_sem]
        | 17, ho =>
          obtain rfl := Option.some.inj ho
          have d90 : bx.tmps.getD 90 undef = .bool true := hS.dep 16 90 (by kernel_rfl) (by kernel_rfl)
          refine .inl ⟨rfl, ends_value' (c := .bool true) ?_⟩
          simp [execOp, Act.eval, d90]
        | n + 18, ho => exact absurd ho (by simp)
      case fin =>
        intro u hbel
        simp [putAll, dstAt, Act.put]
        go_wp2_with fail
        go_ret
        exact ⟨rfl, (unhide KB).drew.trans (hbel.mono (by omega))⟩
    | true =>
      have hd : (buildE a1 a2 == 0) = false := by
        have : ¬ buildE a1 a2 = 0 := fun h => hown ⟨rfl, h⟩
        simpa using this
      clear hown
      go_wp2_with fail
      refine (parse_any a0 _ hxs).mono ?_
      rintro e v1 ⟨rfl, hc1⟩
      have kb1 := (unhide HB).trans (hc1.mono hsz3)
      have ks1 : w.heap.size ≤ v1.heap.size := kb1.size
      have kn1 := (newHd v1 (parseH a0) 24).at_
      have kb2 := kb1.alloc ks1 (.cells #[.int .i64 (parseH a0).src, .int .i64 (parseH a0).dst, .int .u32 (parseH a0).seq, .int .u32 (parseH a0).ack, .int .i64 (parseH a0).flags, .int .i64 (parseH a0).win, .int .i64 (parseH a0).urg, .string (parseH a0).opts] 24)
      have KN1 := hide kn1
      have KB := hide kb2
      clear hc1 kb1 kn1 kb2
      go_wp2_with fail
      refine (rparse_any a0 _ hxs).mono ?_
      rintro e v2 ⟨rfl, hc2⟩
      have ks2 : v1.heap.size + 1 ≤ v2.heap.size := by have := hc2.size; simp at this; omega
      have kn1 := (unhide KN1).on hc2 (by simp)
      have kb2 := (unhide KB).trans (hc2.mono (by simp; omega))
      have kn3 := kn1.on (alloc_on v2 (.cells #[.int .i64 (parseH a0).src, .int .i64 (parseH a0).dst, .int .u32 (parseH a0).seq, .int .u32 (parseH a0).ack, .int .i64 (parseH a0).flags, .int .i64 (parseH a0).win, .int .i64 (parseH a0).urg, .string (parseH a0).opts] 31)) (by omega)
      have kn2 := (newHd v2 (parseH a0) 31).at_
      have kb3 := kb2.alloc (by omega) (.cells #[.int .i64 (parseH a0).src, .int .i64 (parseH a0).dst, .int .u32 (parseH a0).seq, .int .u32 (parseH a0).ack, .int .i64 (parseH a0).flags, .int .i64 (parseH a0).win, .int .i64 (parseH a0).urg, .string (parseH a0).opts] 31)
      have hza : (v2.alloc (.cells #[.int .i64 (parseH a0).src, .int .i64 (parseH a0).dst, .int .u32 (parseH a0).seq, .int .u32 (parseH a0).ack, .int .i64 (parseH a0).flags, .int .i64 (parseH a0).win, .int .i64 (parseH a0).urg, .string (parseH a0).opts] 31)).heap.size = v2.heap.size + 1 := by simp
      clear KN1 KB hc2 kn1 kb2
      have K1 := hide kn3
      have K2 := hide kn2
      have KB := hide kb3
      clear kn3 kn2 kb3
      go_wp2_with fail
      clear hxs
      generalize v2.alloc (.cells #[.int .i64 (parseH a0).src, .int .i64 (parseH a0).dst, .int .u32 (parseH a0).seq, .int .u32 (parseH a0).ack, .int .i64 (parseH a0).flags, .int .i64 (parseH a0).win, .int .i64 (parseH a0).urg, .string (parseH a0).opts] 31) = VV at *
      generalize parseH a0 = Y at *
      generalize parseS a0 = YS at *
      generalize parseE a0 = YE at *
      refine wp_region_grow (by kernel_rfl) [.bool true, .bool true, .agg #[.int .i64 Y.src, .int .i64 Y.dst, .int .u32 Y.seq, .int .u32 Y.ack, .int .i64 Y.flags, .int .i64 Y.win, .int .i64 Y.urg, .string Y.opts], .agg #[.int .i64 Y.src, .int .i64 Y.dst, .int .u32 Y.seq, .int .u32 Y.ack, .int .i64 Y.flags, .int .i64 Y.win, .int .i64 Y.urg, .string Y.opts], .agg #[.int .i64 Y.src, .int .i64 Y.dst, .int .u32 Y.seq, .int .u32 Y.ack, .int .i64 Y.flags, .int .i64 Y.win, .int .i64 Y.urg, .string Y.opts], .bool true, .bool true, .bool true, .string YS, .string YS, .bool true, .bool true, .bool true, .int .i64 YE, .int .i64 YE, .bool true, .bool true, .bool true] (by kernel_rfl) ?op ?fin
      case op =>
        intro i o bx u ho hbel hS
        match i, ho with
        | 0, ho =>
          obtain rfl := Option.some.inj ho
          have d13 : bx.tmps.getD 13 undef = .bool true := hS.base 13 (by kernel_rfl)
          refine .inl ⟨rfl, ends_value' (c := .bool true) ?_⟩
          simp [execOp, Act.eval, d13]
        | 1, ho =>
          obtain rfl := Option.some.inj ho
          have d74 : bx.tmps.getD 74 undef = .bool true := hS.dep 0 74 (by kernel_rfl) (by kernel_rfl)
          refine .inl ⟨rfl, ends_value' (c := .bool true) ?_⟩
          simp [execOp, Act.eval, d74]
        | 2, ho =>
          obtain rfl := Option.some.inj ho
          have d17 : bx.tmps.getD 17 undef = .pointer (some ⟨v1.heap.size, 0, none⟩) := hS.base 17 (by kernel_rfl)
          have gd : bx.tmps.getD 75 undef = .bool true := hS.dep 1 75 (by kernel_rfl) (by kernel_rfl)
          have g := (unhide K1).on (hdrew hbel) (by omega)
          have g0 := g 0 (by decide)
          have g1 := g 1 (by decide)
          have g2 := g 2 (by decide)
          have g3 := g 3 (by decide)
          have g4 := g 4 (by decide)
          have g5 := g 5 (by decide)
          have g6 := g 6 (by decide)
          have g7 := g 7 (by decide)
          simp only [hcell] at g0 g1 g2 g3 g4 g5 g6 g7
          refine .inl ⟨wanted_yes (j := 1) (t := 75) (c := true) (by kernel_rfl) (by kernel_rfl) gd, ends_value' (c := .agg #[.int .i64 Y.src, .int .i64 Y.dst, .int .u32 Y.seq, .int .u32 Y.ack, .int .i64 Y.flags, .int .i64 Y.win, .int .i64 Y.urg, .string Y.opts]) ?_⟩
          simp [Act.eval, d17, go_sem, g0, g1, g2, g3, g4, g5, g6, g7]
        | 3, ho =>
          obtain rfl := Option.some.inj ho
          have d76 : bx.tmps.getD 76 undef = .agg #[.int .i64 Y.src, .int .i64 Y.dst, .int .u32 Y.seq, .int .u32 Y.ack, .int .i64 Y.flags, .int .i64 Y.win, .int .i64 Y.urg, .string Y.opts] := hS.dep 2 76 (by kernel_rfl) (by kernel_rfl)
          have gd : bx.tmps.getD 75 undef = .bool true := hS.dep 1 75 (by kernel_rfl) (by kernel_rfl)
          refine .inl ⟨wanted_yes (j := 1) (t := 75) (c := true) (by kernel_rfl) (by kernel_rfl) gd, ends_call' (c := .agg #[.int .i64 Y.src, .int .i64 Y.dst, .int .u32 Y.seq, .int .u32 Y.ack, .int .i64 Y.flags, .int .i64 Y.win, .int .i64 Y.urg, .string Y.opts]) (f := 13) (args := #[Y.val]) ?_ (ref_any Y u)⟩
          simp [Act.eval, d76, go_sem]
        | 4, ho =>
          obtain rfl := Option.some.inj ho
          have d20 : bx.tmps.getD 20 undef = .pointer (some ⟨v2.heap.size, 0, none⟩) := hS.base 20 (by kernel_rfl)
          have gd : bx.tmps.getD 75 undef = .bool true := hS.dep 1 75 (by kernel_rfl) (by kernel_rfl)
          have g := (unhide K2).on (hdrew hbel) (by omega)
          have g0 := g 0 (by decide)
          have g1 := g 1 (by decide)
          have g2 := g 2 (by decide)
          have g3 := g 3 (by decide)
          have g4 := g 4 (by decide)
          have g5 := g 5 (by decide)
          have g6 := g 6 (by decide)
          have g7 := g 7 (by decide)
          simp only [hcell] at g0 g1 g2 g3 g4 g5 g6 g7
          refine .inl ⟨wanted_yes (j := 1) (t := 75) (c := true) (by kernel_rfl) (by kernel_rfl) gd, ends_value' (c := .agg #[.int .i64 Y.src, .int .i64 Y.dst, .int .u32 Y.seq, .int .u32 Y.ack, .int .i64 Y.flags, .int .i64 Y.win, .int .i64 Y.urg, .string Y.opts]) ?_⟩
          simp [Act.eval, d20, go_sem, g0, g1, g2, g3, g4, g5, g6, g7]
        | 5, ho =>
          obtain rfl := Option.some.inj ho
          have d77 : bx.tmps.getD 77 undef = .agg #[.int .i64 Y.src, .int .i64 Y.dst, .int .u32 Y.seq, .int .u32 Y.ack, .int .i64 Y.flags, .int .i64 Y.win, .int .i64 Y.urg, .string Y.opts] := hS.dep 3 77 (by kernel_rfl) (by kernel_rfl)
          have d78 : bx.tmps.getD 78 undef = .agg #[.int .i64 Y.src, .int .i64 Y.dst, .int .u32 Y.seq, .int .u32 Y.ack, .int .i64 Y.flags, .int .i64 Y.win, .int .i64 Y.urg, .string Y.opts] := hS.dep 4 78 (by kernel_rfl) (by kernel_rfl)
          have gd : bx.tmps.getD 75 undef = .bool true := hS.dep 1 75 (by kernel_rfl) (by kernel_rfl)
          refine .inl ⟨wanted_yes (j := 1) (t := 75) (c := true) (by kernel_rfl) (by kernel_rfl) gd, ends_value' (c := .bool true) ?_⟩
          simp [Act.eval, d77, d78, go_sem]
        | 6, ho =>
          obtain rfl := Option.some.inj ho
          have d75 : bx.tmps.getD 75 undef = .bool true := hS.dep 1 75 (by kernel_rfl) (by kernel_rfl)
          have d79 : bx.tmps.getD 79 undef = .bool true := hS.dep 5 79 (by kernel_rfl) (by kernel_rfl)
          refine .inl ⟨rfl, ends_value' (c := .bool true) ?_⟩
          simp [Act.eval, d75, d79, go_sem]
        | 7, ho =>
          obtain rfl := Option.some.inj ho
          have d80 : bx.tmps.getD 80 undef = .bool true := hS.dep 6 80 (by kernel_rfl) (by kernel_rfl)
          refine .inl ⟨rfl, ends_value' (c := .bool true) ?_⟩
          simp [execOp, Act.eval, d80]
        | 8, ho =>
          obtain rfl := Option.some.inj ho
          have d18 : bx.tmps.getD 18 undef = .string YS := hS.base 18 (by kernel_rfl)
          have gd : bx.tmps.getD 81 undef = .bool true := hS.dep 7 81 (by kernel_rfl) (by kernel_rfl)
          refine .inl ⟨wanted_yes (j := 7) (t := 81) (c := true) (by kernel_rfl) (by kernel_rfl) gd, ends_value' (c := .string YS) ?_⟩
          simp [execOp, Act.eval, d18]
        | 9, ho =>
          obtain rfl := Option.some.inj ho
          have d21 : bx.tmps.getD 21 undef = .string YS := hS.base 21 (by kernel_rfl)
          have gd : bx.tmps.getD 81 undef = .bool true := hS.dep 7 81 (by kernel_rfl) (by kernel_rfl)
          refine .inl ⟨wanted_yes (j := 7) (t := 81) (c := true) (by kernel_rfl) (by kernel_rfl) gd, ends_value' (c := .string YS) ?_⟩
          simp [execOp, Act.eval, d21]
        | 10, ho =>
          obtain rfl := Option.some.inj ho
          have d82 : bx.tmps.getD 82 undef = .string YS := hS.dep 8 82 (by kernel_rfl) (by kernel_rfl)
          have d83 : bx.tmps.getD 83 undef = .string YS := hS.dep 9 83 (by kernel_rfl) (by kernel_rfl)
          have gd : bx.tmps.getD 81 undef = .bool true := hS.dep 7 81 (by kernel_rfl) (by kernel_rfl)
          refine .inl ⟨wanted_yes (j := 7) (t := 81) (c := true) (by kernel_rfl) (by kernel_rfl) gd, ends_value' (c := .bool true) ?_⟩
          simp [Act.eval, d82, d83, go_sem]
        | 11, ho =>
          obtain rfl := Option.some.inj ho
          have d81 : bx.tmps.getD 81 undef = .bool true := hS.dep 7 81 (by kernel_rfl) (by kernel_rfl)
          have d84 : bx.tmps.getD 84 undef = .bool true := hS.dep 10 84 (by kernel_rfl) (by kernel_rfl)
          refine .inl ⟨rfl, ends_value' (c := .bool true) ?_⟩
          simp [Act.eval, d81, d84, go_sem]
        | 12, ho =>
          obtain rfl := Option.some.inj ho
          have d85 : bx.tmps.getD 85 undef = .bool true := hS.dep 11 85 (by kernel_rfl) (by kernel_rfl)
          refine .inl ⟨rfl, ends_value' (c := .bool true) ?_⟩
          simp [execOp, Act.eval, d85]
        | 13, ho =>
          obtain rfl := Option.some.inj ho
          have d19 : bx.tmps.getD 19 undef = .int .i64 YE := hS.base 19 (by kernel_rfl)
          have gd : bx.tmps.getD 86 undef = .bool true := hS.dep 12 86 (by kernel_rfl) (by kernel_rfl)
          refine .inl ⟨wanted_yes (j := 12) (t := 86) (c := true) (by kernel_rfl) (by kernel_rfl) gd, ends_value' (c := .int .i64 YE) ?_⟩
          simp [execOp, Act.eval, d19]
        | 14, ho =>
          obtain rfl := Option.some.inj ho
          have d22 : bx.tmps.getD 22 undef = .int .i64 YE := hS.base 22 (by kernel_rfl)
          have gd : bx.tmps.getD 86 undef = .bool true := hS.dep 12 86 (by kernel_rfl) (by kernel_rfl)
          refine .inl ⟨wanted_yes (j := 12) (t := 86) (c := true) (by kernel_rfl) (by kernel_rfl) gd, ends_value' (c := .int .i64 YE) ?_⟩
          simp [execOp, Act.eval, d22]
        | 15, ho =>
          obtain rfl := Option.some.inj ho
          have d87 : bx.tmps.getD 87 undef = .int .i64 YE := hS.dep 13 87 (by kernel_rfl) (by kernel_rfl)
          have d88 : bx.tmps.getD 88 undef = .int .i64 YE := hS.dep 14 88 (by kernel_rfl) (by kernel_rfl)
          have gd : bx.tmps.getD 86 undef = .bool true := hS.dep 12 86 (by kernel_rfl) (by kernel_rfl)
          refine .inl ⟨wanted_yes (j := 12) (t := 86) (c := true) (by kernel_rfl) (by kernel_rfl) gd, ends_value' (c := .bool true) ?_⟩
          simp [Act.eval, d87, d88, go_sem]
        | 16, ho =>
          obtain rfl := Option.some.inj ho
          have d86 : bx.tmps.getD 86 undef = .bool true := hS.dep 12 86 (by kernel_rfl) (by kernel_rfl)
          have d89 : bx.tmps.getD 89 undef = .bool true := hS.dep 15 89 (by kernel_rfl) (by kernel_rfl)
          refine .inl ⟨rfl, ends_value' (c := .bool true) ?_⟩
          simp [Act.eval, d86, d89, go_sem]
        | 17, ho =>
          obtain rfl := Option.some.inj ho
          have d90 : bx.tmps.getD 90 undef = .bool true := hS.dep 16 90 (by kernel_rfl) (by kernel_rfl)
          refine .inl ⟨rfl, ends_value' (c := .bool true) ?_⟩
          simp [execOp, Act.eval, d90]
        | n + 18, ho => exact absurd ho (by simp)
      case fin =>
        intro u hbel
        simp [putAll, dstAt, Act.put]
        go_wp2_with fail
        go_ret
        exact ⟨rfl, (unhide KB).drew.trans (hbel.mono (by omega))⟩
  case pos =>
    obtain ⟨rfl, he⟩ := hown
    obtain ⟨hR, hbt⟩ := build_right he
    rw [buildS_of he, he]
    have hbs := built_size hR w1 a2
    unfold btotal at hbt
    generalize built a1 a2 = t at *
    obtain ⟨n, hn⟩ : ∃ n : Nat, t.size = n := ⟨_, rfl⟩
    have hn0 : 20 ≤ n := by omega
    have hn1 : n ≤ 1500 := by omega
    obtain ⟨c, V, hcv, hVb, hVt⟩ := conv_bytes t w3
    rw [hn] at hcv
    have hbV := (unhide HB).trans (hVb.mono hsz3)
    have hgV : w3.heap.size < V.heap.size := by have := (hVt 0 (by rw [Oct.len_eq]; omega)).1; exact block_lt_of_cell this
    clear hVb HB hR hbt hbs he
    have hgw : w.heap.size ≤ w3.heap.size := hsz3
    by_cases hneg : a4 < 0
    · obtain ⟨A, hA⟩ : ∃ A : Int, -(a4 + 1) = A := ⟨_, rfl⟩
      have hA0 : 0 ≤ A := by omega
      have hA1 : A ≤ 9223372036854775807 := by omega
      have hd : decide (a4 < 0) = true := by simpa using hneg
      go_wp2_with fail
      clear hcv hd
      generalize hg : w3.heap.size = g at *
      obtain ⟨Kn, hKn⟩ : ∃ Kn : Nat, (A % n).toNat = Kn := ⟨_, rfl⟩
      have hK0 : 0 ≤ A % n := Int.emod_nonneg _ (by omega)
      have hK1 : A % n < n := Int.emod_lt_of_pos _ (by omega)
      have hKlt : Kn < n := by omega
      have hrem : A.tmod n = A % n := Int.tmod_eq_emod_of_nonneg hA0
      have hnz : ¬ n = 0 := by omega
      have hon : ∀ {u : World}, Below V.heap.size V.drew u → Bts u g t.data.toList := fun {u} hb => hVt.on (hdrew hb)
      have hlt : Kn < t.data.toList.length := by rw [Oct.len_eq]; omega
      have hbts : ∀ {u : World}, Below V.heap.size V.drew u → u.cell? ⟨g, Kn, none⟩ = some (.int .u8 ((t.data.toList.getD Kn 0).toNat : Int)) := fun {u} hb => (hon hb Kn hlt).1
      have hbtf : ∀ {u : World}, Below V.heap.size V.drew u → u.frozen? ⟨g, Kn, none⟩ = false := fun {u} hb => (hon hb Kn hlt).2
      generalize hbK : ((t.data.toList.getD Kn 0).toNat : Int) = bK at *
      obtain ⟨X, hX⟩ : ∃ X : Int, bits .xor .u8 bK a5 = X := ⟨_, rfl⟩
      have hXb := bounds_u8 (wf_bits .xor .u8 bK a5)
      rw [hX] at hXb
      obtain ⟨hX0, hX1⟩ := hXb
      refine wp_region_grow_store (by kernel_rfl) [.slice (some ⟨g, 0, none⟩) n c, .int .i64 A, .slice (some ⟨g, 0, none⟩) n c, .int .i64 n, .int .i64 (A % n), .slice (some ⟨g, 0, none⟩) n c, .int .i64 A, .slice (some ⟨g, 0, none⟩) n c, .int .i64 n, .int .i64 (A % n), .pointer (some ⟨g, Kn, none⟩), .int .u8 bK, .int .u8 a5, .int .u8 X, .pointer (some ⟨g, Kn, none⟩), undef] 15 (fun v => v.setCell ⟨g, Kn, none⟩ (.int .u8 X)) (by kernel_rfl) (by decide) rfl ?op ?store ?fin
      case op =>
        intro i o bx u ho hne hbel hS
        match i, ho with
        | 0, ho =>
          obtain rfl := Option.some.inj ho
          have d16 : bx.tmps.getD 16 undef = .slice (some ⟨g, 0, none⟩) n c := hS.base 16 (by kernel_rfl)
          refine .inl ⟨rfl, ends_value (c := .slice (some ⟨g, 0, none⟩) n c) ?_⟩
          simp [execOp, Act.eval, d16]
        | 1, ho =>
          obtain rfl := Option.some.inj ho
          have d4 : bx.tmps.getD 4 undef = .int .i64 A := hS.base 4 (by kernel_rfl)
          refine .inl ⟨rfl, ends_value (c := .int .i64 A) ?_⟩
          simp [execOp, Act.eval, d4]
        | 2, ho =>
          obtain rfl := Option.some.inj ho
          have d16 : bx.tmps.getD 16 undef = .slice (some ⟨g, 0, none⟩) n c := hS.base 16 (by kernel_rfl)
          refine .inl ⟨rfl, ends_value (c := .slice (some ⟨g, 0, none⟩) n c) ?_⟩
          simp [execOp, Act.eval, d16]
        | 3, ho =>
          obtain rfl := Option.some.inj ho
          have d47 : bx.tmps.getD 47 undef = .slice (some ⟨g, 0, none⟩) n c := hS.dep 2 47 (by kernel_rfl) (by kernel_rfl)
          refine .inl ⟨rfl, ends_value (c := .int .i64 n) ?_⟩
          simp [Act.eval, d47, go_sem]
        | 4, ho =>
          obtain rfl := Option.some.inj ho
          have d46 : bx.tmps.getD 46 undef = .int .i64 A := hS.dep 1 46 (by kernel_rfl) (by kernel_rfl)
          have d48 : bx.tmps.getD 48 undef = .int .i64 n := hS.dep 3 48 (by kernel_rfl) (by kernel_rfl)
          refine .inl ⟨rfl, ends_value (c := .int .i64 (A % n)) ?_⟩
          simp [Act.eval, d46, d48, go_sem, hrem, hnz]
        | 5, ho =>
          obtain rfl := Option.some.inj ho
          have d16 : bx.tmps.getD 16 undef = .slice (some ⟨g, 0, none⟩) n c := hS.base 16 (by kernel_rfl)
          refine .inl ⟨rfl, ends_value (c := .slice (some ⟨g, 0, none⟩) n c) ?_⟩
          simp [execOp, Act.eval, d16]
        | 6, ho =>
          obtain rfl := Option.some.inj ho
          have d4 : bx.tmps.getD 4 undef = .int .i64 A := hS.base 4 (by kernel_rfl)
          refine .inl ⟨rfl, ends_value (c := .int .i64 A) ?_⟩
          simp [execOp, Act.eval, d4]
        | 7, ho =>
          obtain rfl := Option.some.inj ho
          have d16 : bx.tmps.getD 16 undef = .slice (some ⟨g, 0, none⟩) n c := hS.base 16 (by kernel_rfl)
          refine .inl ⟨rfl, ends_value (c := .slice (some ⟨g, 0, none⟩) n c) ?_⟩
          simp [execOp, Act.eval, d16]
        | 8, ho =>
          obtain rfl := Option.some.inj ho
          have d52 : bx.tmps.getD 52 undef = .slice (some ⟨g, 0, none⟩) n c := hS.dep 7 52 (by kernel_rfl) (by kernel_rfl)
          refine .inl ⟨rfl, ends_value (c := .int .i64 n) ?_⟩
          simp [Act.eval, d52, go_sem]
        | 9, ho =>
          obtain rfl := Option.some.inj ho
          have d51 : bx.tmps.getD 51 undef = .int .i64 A := hS.dep 6 51 (by kernel_rfl) (by kernel_rfl)
          have d53 : bx.tmps.getD 53 undef = .int .i64 n := hS.dep 8 53 (by kernel_rfl) (by kernel_rfl)
          refine .inl ⟨rfl, ends_value (c := .int .i64 (A % n)) ?_⟩
          simp [Act.eval, d51, d53, go_sem, hrem, hnz]
        | 10, ho =>
          obtain rfl := Option.some.inj ho
          have d50 : bx.tmps.getD 50 undef = .slice (some ⟨g, 0, none⟩) n c := hS.dep 5 50 (by kernel_rfl) (by kernel_rfl)
          have d54 : bx.tmps.getD 54 undef = .int .i64 (A % n) := hS.dep 9 54 (by kernel_rfl) (by kernel_rfl)
          refine .inl ⟨rfl, ends_value (c := .pointer (some ⟨g, Kn, none⟩)) ?_⟩
          simp [Act.eval, d50, d54, go_sem, hK0, hK1, hKn]
        | 11, ho =>
          obtain rfl := Option.some.inj ho
          have d55 : bx.tmps.getD 55 undef = .pointer (some ⟨g, Kn, none⟩) := hS.dep 10 55 (by kernel_rfl) (by kernel_rfl)
          have hl := (hbts (hbel (by kernel_rfl)))
          refine .inl ⟨rfl, ends_value (c := .int .u8 bK) ?_⟩
          simp [Act.eval, d55, go_sem, hl]
        | 12, ho =>
          obtain rfl := Option.some.inj ho
          have d5 : bx.tmps.getD 5 undef = .int .u8 a5 := hS.base 5 (by kernel_rfl)
          refine .inl ⟨rfl, ends_value (c := .int .u8 a5) ?_⟩
          simp [execOp, Act.eval, d5]
        | 13, ho =>
          obtain rfl := Option.some.inj ho
          have d56 : bx.tmps.getD 56 undef = .int .u8 bK := hS.dep 11 56 (by kernel_rfl) (by kernel_rfl)
          have d57 : bx.tmps.getD 57 undef = .int .u8 a5 := hS.dep 12 57 (by kernel_rfl) (by kernel_rfl)
          refine .inl ⟨rfl, ends_value (c := .int .u8 X) ?_⟩
          simp [Act.eval, d56, d57, go_sem, hX]
        | 14, ho =>
          obtain rfl := Option.some.inj ho
          have d45 : bx.tmps.getD 45 undef = .slice (some ⟨g, 0, none⟩) n c := hS.dep 0 45 (by kernel_rfl) (by kernel_rfl)
          have d49 : bx.tmps.getD 49 undef = .int .i64 (A % n) := hS.dep 4 49 (by kernel_rfl) (by kernel_rfl)
          refine .inl ⟨rfl, ends_value (c := .pointer (some ⟨g, Kn, none⟩)) ?_⟩
          simp [Act.eval, d45, d49, go_sem, hK0, hK1, hKn]
        | 15, _ => exact absurd rfl hne
        | n + 16, ho => exact absurd ho (by simp)
      case store =>
        intro o bx u ho hbel hS
        obtain rfl := Option.some.inj ho
        have d59 : bx.tmps.getD 59 undef = .pointer (some ⟨g, Kn, none⟩) := hS.dep 14 59 (by kernel_rfl) (by kernel_rfl)
        have d58 : bx.tmps.getD 58 undef = .int .u8 X := hS.dep 13 58 (by kernel_rfl) (by kernel_rfl)
        have hs1 := hbts hbel
        have hs2 := hbtf hbel
        refine ⟨rfl, ?_⟩
        simp [Act.eval, d59, d58, go_sem, hs1, hs2]
      case fin =>
        intro u hbel
        simp [putAll, dstAt, Act.put]
        have hB2 : Bts (u.setCell ⟨g, Kn, none⟩ (.int .u8 X)) g (t.data.toList.set Kn (UInt8.ofNat X.toNat)) := (hon hbel).set Kn (by rw [Oct.len_eq]; omega) X hX0 (by omega)
        have hbz : Below w.heap.size w (u.setCell ⟨g, Kn, none⟩ (.int .u8 X)) := (hbV.drew.trans (hbel.mono (by omega))).setCell (p := ⟨g, Kn, none⟩) (by simp; omega) _
        have hsz : w.heap.size ≤ (u.setCell ⟨g, Kn, none⟩ (.int .u8 X)).heap.size := hbz.size
        generalize u.setCell ⟨g, Kn, none⟩ (.int .u8 X) = Z at *
        have hlen : (t.data.toList.set Kn (UInt8.ofNat X.toNat)).length = n := by rw [List.length_set, Oct.len_eq]; exact hn
        generalize hL : t.data.toList.set Kn (UInt8.ofNat X.toNat) = L at *
        have htx := hB2.text c
        rw [hlen] at htx
        have hls : (ByteArray.mk L.toArray).size = n := by rw [Oct.mk_size, hlen]
        have hxs : (ByteArray.mk L.toArray).size ≤ 281474976710656 := by rw [hls]; omega
        clear hB2 hL
        go_wp2_with fail
        generalize ByteArray.mk L.toArray = x at *
        clear htx hls
        refine (parse_any x _ hxs).mono ?_
        rintro e v1 ⟨rfl, hc1⟩
        have kb1 := hbz.trans (hc1.mono (by omega))
        have ks1 : w.heap.size ≤ v1.heap.size := kb1.size
        have kn1 := (newHd v1 (parseH x) 24).at_
        have kb2 := kb1.alloc ks1 (.cells #[.int .i64 (parseH x).src, .int .i64 (parseH x).dst, .int .u32 (parseH x).seq, .int .u32 (parseH x).ack, .int .i64 (parseH x).flags, .int .i64 (parseH x).win, .int .i64 (parseH x).urg, .string (parseH x).opts] 24)
        have KN1 := hide kn1
        have KB := hide kb2
        clear hc1 kb1 kn1 kb2
        go_wp2_with fail
        refine (rparse_any x _ hxs).mono ?_
        rintro e v2 ⟨rfl, hc2⟩
        have ks2 : v1.heap.size + 1 ≤ v2.heap.size := by have := hc2.size; simp at this; omega
        have kn1 := (unhide KN1).on hc2 (by simp)
        have kb2 := (unhide KB).trans (hc2.mono (by simp; omega))
        have kn3 := kn1.on (alloc_on v2 (.cells #[.int .i64 (parseH x).src, .int .i64 (parseH x).dst, .int .u32 (parseH x).seq, .int .u32 (parseH x).ack, .int .i64 (parseH x).flags, .int .i64 (parseH x).win, .int .i64 (parseH x).urg, .string (parseH x).opts] 31)) (by omega)
        have kn2 := (newHd v2 (parseH x) 31).at_
        have kb3 := kb2.alloc (by omega) (.cells #[.int .i64 (parseH x).src, .int .i64 (parseH x).dst, .int .u32 (parseH x).seq, .int .u32 (parseH x).ack, .int .i64 (parseH x).flags, .int .i64 (parseH x).win, .int .i64 (parseH x).urg, .string (parseH x).opts] 31)
        have hza : (v2.alloc (.cells #[.int .i64 (parseH x).src, .int .i64 (parseH x).dst, .int .u32 (parseH x).seq, .int .u32 (parseH x).ack, .int .i64 (parseH x).flags, .int .i64 (parseH x).win, .int .i64 (parseH x).urg, .string (parseH x).opts] 31)).heap.size = v2.heap.size + 1 := by simp
        clear KN1 KB hc2 kn1 kb2
        have K1 := hide kn3
        have K2 := hide kn2
        have KB := hide kb3
        clear kn3 kn2 kb3
        go_wp2_with fail
        clear hxs
        generalize v2.alloc (.cells #[.int .i64 (parseH x).src, .int .i64 (parseH x).dst, .int .u32 (parseH x).seq, .int .u32 (parseH x).ack, .int .i64 (parseH x).flags, .int .i64 (parseH x).win, .int .i64 (parseH x).urg, .string (parseH x).opts] 31) = VV at *
        generalize parseH x = Y at *
        generalize parseS x = YS at *
        generalize parseE x = YE at *
        refine wp_region_grow (by kernel_rfl) [.bool true, .bool true, .agg #[.int .i64 Y.src, .int .i64 Y.dst, .int .u32 Y.seq, .int .u32 Y.ack, .int .i64 Y.flags, .int .i64 Y.win, .int .i64 Y.urg, .string Y.opts], .agg #[.int .i64 Y.src, .int .i64 Y.dst, .int .u32 Y.seq, .int .u32 Y.ack, .int .i64 Y.flags, .int .i64 Y.win, .int .i64 Y.urg, .string Y.opts], .agg #[.int .i64 Y.src, .int .i64 Y.dst, .int .u32 Y.seq, .int .u32 Y.ack, .int .i64 Y.flags, .int .i64 Y.win, .int .i64 Y.urg, .string Y.opts], .bool true, .bool true, .bool true, .string YS, .string YS, .bool true, .bool true, .bool true, .int .i64 YE, .int .i64 YE, .bool true, .bool true, .bool true] (by kernel_rfl) ?op ?fin
        case op =>
          intro i o bx u ho hbel hS
          match i, ho with
          | 0, ho =>
            obtain rfl := Option.some.inj ho
            have d13 : bx.tmps.getD 13 undef = .bool true := hS.base 13 (by kernel_rfl)
            refine .inl ⟨rfl, ends_value' (c := .bool true) ?_⟩
            simp [execOp, Act.eval, d13]
          | 1, ho =>
            obtain rfl := Option.some.inj ho
            have d74 : bx.tmps.getD 74 undef = .bool true := hS.dep 0 74 (by kernel_rfl) (by kernel_rfl)
            refine .inl ⟨rfl, ends_value' (c := .bool true) ?_⟩
            simp [execOp, Act.eval, d74]
          | 2, ho =>
            obtain rfl := Option.some.inj ho
            have d17 : bx.tmps.getD 17 undef = .pointer (some ⟨v1.heap.size, 0, none⟩) := hS.base 17 (by kernel_rfl)
            have gd : bx.tmps.getD 75 undef = .bool true := hS.dep 1 75 (by kernel_rfl) (by kernel_rfl)
            have g := (unhide K1).on (hdrew hbel) (by omega)
            have g0 := g 0 (by decide)
            have g1 := g 1 (by decide)
            have g2 := g 2 (by decide)
            have g3 := g 3 (by decide)
            have g4 := g 4 (by decide)
            have g5 := g 5 (by decide)
            have g6 := g 6 (by decide)
            have g7 := g 7 (by decide)
            simp only [hcell] at g0 g1 g2 g3 g4 g5 g6 g7
            refine .inl ⟨wanted_yes (j := 1) (t := 75) (c := true) (by kernel_rfl) (by kernel_rfl) gd, ends_value' (c := .agg #[.int .i64 Y.src, .int .i64 Y.dst, .int .u32 Y.seq, .int .u32 Y.ack, .int .i64 Y.flags, .int .i64 Y.win, .int .i64 Y.urg, .string Y.opts]) ?_⟩
            simp [Act.eval, d17, go_sem, g0, g1, g2, g3, g4, g5, g6, g7]
          | 3, ho =>
            obtain rfl := Option.some.inj ho
            have d76 : bx.tmps.getD 76 undef = .agg #[.int .i64 Y.src, .int .i64 Y.dst, .int .u32 Y.seq, .int .u32 Y.ack, .int .i64 Y.flags, .int .i64 Y.win, .int .i64 Y.urg, .string Y.opts] := hS.dep 2 76 (by kernel_rfl) (by kernel_rfl)
            have gd : bx.tmps.getD 75 undef = .bool true := hS.dep 1 75 (by kernel_rfl) (by kernel_rfl)
            refine .inl ⟨wanted_yes (j := 1) (t := 75) (c := true) (by kernel_rfl) (by kernel_rfl) gd, ends_call' (c := .agg #[.int .i64 Y.src, .int .i64 Y.dst, .int .u32 Y.seq, .int .u32 Y.ack, .int .i64 Y.flags, .int .i64 Y.win, .int .i64 Y.urg, .string Y.opts]) (f := 13) (args := #[Y.val]) ?_ (ref_any Y u)⟩
            simp [Act.eval, d76, go_sem]
          | 4, ho =>
            obtain rfl := Option.some.inj ho
            have d20 : bx.tmps.getD 20 undef = .pointer (some ⟨v2.heap.size, 0, none⟩) := hS.base 20 (by kernel_rfl)
            have gd : bx.tmps.getD 75 undef = .bool true := hS.dep 1 75 (by kernel_rfl) (by kernel_rfl)
            have g := (unhide K2).on (hdrew hbel) (by omega)
            have g0 := g 0 (by decide)
            have g1 := g 1 (by decide)
            have g2 := g 2 (by decide)
            have g3 := g 3 (by decide)
            have g4 := g 4 (by decide)
            have g5 := g 5 (by decide)
            have g6 := g 6 (by decide)
            have g7 := g 7 (by decide)
            simp only [hcell] at g0 g1 g2 g3 g4 g5 g6 g7
            refine .inl ⟨wanted_yes (j := 1) (t := 75) (c := true) (by kernel_rfl) (by kernel_rfl) gd, ends_value' (c := .agg #[.int .i64 Y.src, .int .i64 Y.dst, .int .u32 Y.seq, .int .u32 Y.ack, .int .i64 Y.flags, .int .i64 Y.win, .int .i64 Y.urg, .string Y.opts]) ?_⟩
            simp [Act.eval, d20, go_sem, g0, g1, g2, g3, g4, g5, g6, g7]
          | 5, ho =>
            obtain rfl := Option.some.inj ho
            have d77 : bx.tmps.getD 77 undef = .agg #[.int .i64 Y.src, .int .i64 Y.dst, .int .u32 Y.seq, .int .u32 Y.ack, .int .i64 Y.flags, .int .i64 Y.win, .int .i64 Y.urg, .string Y.opts] := hS.dep 3 77 (by kernel_rfl) (by kernel_rfl)
            have d78 : bx.tmps.getD 78 undef = .agg #[.int .i64 Y.src, .int .i64 Y.dst, .int .u32 Y.seq, .int .u32 Y.ack, .int .i64 Y.flags, .int .i64 Y.win, .int .i64 Y.urg, .string Y.opts] := hS.dep 4 78 (by kernel_rfl) (by kernel_rfl)
            have gd : bx.tmps.getD 75 undef = .bool true := hS.dep 1 75 (by kernel_rfl) (by kernel_rfl)
            refine .inl ⟨wanted_yes (j := 1) (t := 75) (c := true) (by kernel_rfl) (by kernel_rfl) gd, ends_value' (c := .bool true) ?_⟩
            simp [Act.eval, d77, d78, go_sem]
          | 6, ho =>
            obtain rfl := Option.some.inj ho
            have d75 : bx.tmps.getD 75 undef = .bool true := hS.dep 1 75 (by kernel_rfl) (by kernel_rfl)
            have d79 : bx.tmps.getD 79 undef = .bool true := hS.dep 5 79 (by kernel_rfl) (by kernel_rfl)
            refine .inl ⟨rfl, ends_value' (c := .bool true) ?_⟩
            simp [Act.eval, d75, d79, go_sem]
          | 7, ho =>
            obtain rfl := Option.some.inj ho
            have d80 : bx.tmps.getD 80 undef = .bool true := hS.dep 6 80 (by kernel_rfl) (by kernel_rfl)
            refine .inl ⟨rfl, ends_value' (c := .bool true) ?_⟩
            simp [execOp, Act.eval, d80]
          | 8, ho =>
            obtain rfl := Option.some.inj ho
            have d18 : bx.tmps.getD 18 undef = .string YS := hS.base 18 (by kernel_rfl)
            have gd : bx.tmps.getD 81 undef = .bool true := hS.dep 7 81 (by kernel_rfl) (by kernel_rfl)
            refine .inl ⟨wanted_yes (j := 7) (t := 81) (c := true) (by kernel_rfl) (by kernel_rfl) gd, ends_value' (c := .string YS) ?_⟩
            simp [execOp, Act.eval, d18]
          | 9, ho =>
            obtain rfl := Option.some.inj ho
            have d21 : bx.tmps.getD 21 undef = .string YS := hS.base 21 (by kernel_rfl)
            have gd : bx.tmps.getD 81 undef = .bool true := hS.dep 7 81 (by kernel_rfl) (by kernel_rfl)
            refine .inl ⟨wanted_yes (j := 7) (t := 81) (c := true) (by kernel_rfl) (by kernel_rfl) gd, ends_value' (c := .string YS) ?_⟩
            simp [execOp, Act.eval, d21]
          | 10, ho =>
            obtain rfl := Option.some.inj ho
            have d82 : bx.tmps.getD 82 undef = .string YS := hS.dep 8 82 (by kernel_rfl) (by kernel_rfl)
            have d83 : bx.tmps.getD 83 undef = .string YS := hS.dep 9 83 (by kernel_rfl) (by kernel_rfl)
            have gd : bx.tmps.getD 81 undef = .bool true := hS.dep 7 81 (by kernel_rfl) (by kernel_rfl)
            refine .inl ⟨wanted_yes (j := 7) (t := 81) (c := true) (by kernel_rfl) (by kernel_rfl) gd, ends_value' (c := .bool true) ?_⟩
            simp [Act.eval, d82, d83, go_sem]
          | 11, ho =>
            obtain rfl := Option.some.inj ho
            have d81 : bx.tmps.getD 81 undef = .bool true := hS.dep 7 81 (by kernel_rfl) (by kernel_rfl)
            have d84 : bx.tmps.getD 84 undef = .bool true := hS.dep 10 84 (by kernel_rfl) (by kernel_rfl)
            refine .inl ⟨rfl, ends_value' (c := .bool true) ?_⟩
            simp [Act.eval, d81, d84, go_sem]
          | 12, ho =>
            obtain rfl := Option.some.inj ho
            have d85 : bx.tmps.getD 85 undef = .bool true := hS.dep 11 85 (by kernel_rfl) (by kernel_rfl)
            refine .inl ⟨rfl, ends_value' (c := .bool true) ?_⟩
            simp [execOp, Act.eval, d85]
          | 13, ho =>
            obtain rfl := Option.some.inj ho
            have d19 : bx.tmps.getD 19 undef = .int .i64 YE := hS.base 19 (by kernel_rfl)
            have gd : bx.tmps.getD 86 undef = .bool true := hS.dep 12 86 (by kernel_rfl) (by kernel_rfl)
            refine .inl ⟨wanted_yes (j := 12) (t := 86) (c := true) (by kernel_rfl) (by kernel_rfl) gd, ends_value' (c := .int .i64 YE) ?_⟩
            simp [execOp, Act.eval, d19]
          | 14, ho =>
            obtain rfl := Option.some.inj ho
            have d22 : bx.tmps.getD 22 undef = .int .i64 YE := hS.base 22 (by kernel_rfl)
            have gd : bx.tmps.getD 86 undef = .bool true := hS.dep 12 86 (by kernel_rfl) (by kernel_rfl)
            refine .inl ⟨wanted_yes (j := 12) (t := 86) (c := true) (by kernel_rfl) (by kernel_rfl) gd, ends_value' (c := .int .i64 YE) ?_⟩
            simp [execOp, Act.eval, d22]
          | 15, ho =>
            obtain rfl := Option.some.inj ho
            have d87 : bx.tmps.getD 87 undef = .int .i64 YE := hS.dep 13 87 (by kernel_rfl) (by kernel_rfl)
            have d88 : bx.tmps.getD 88 undef = .int .i64 YE := hS.dep 14 88 (by kernel_rfl) (by kernel_rfl)
            have gd : bx.tmps.getD 86 undef = .bool true := hS.dep 12 86 (by kernel_rfl) (by kernel_rfl)
            refine .inl ⟨wanted_yes (j := 12) (t := 86) (c := true) (by kernel_rfl) (by kernel_rfl) gd, ends_value' (c := .bool true) ?_⟩
            simp [Act.eval, d87, d88, go_sem]
          | 16, ho =>
            obtain rfl := Option.some.inj ho
            have d86 : bx.tmps.getD 86 undef = .bool true := hS.dep 12 86 (by kernel_rfl) (by kernel_rfl)
            have d89 : bx.tmps.getD 89 undef = .bool true := hS.dep 15 89 (by kernel_rfl) (by kernel_rfl)
            refine .inl ⟨rfl, ends_value' (c := .bool true) ?_⟩
            simp [Act.eval, d86, d89, go_sem]
          | 17, ho =>
            obtain rfl := Option.some.inj ho
            have d90 : bx.tmps.getD 90 undef = .bool true := hS.dep 16 90 (by kernel_rfl) (by kernel_rfl)
            refine .inl ⟨rfl, ends_value' (c := .bool true) ?_⟩
            simp [execOp, Act.eval, d90]
          | n + 18, ho => exact absurd ho (by simp)
        case fin =>
          intro u hbel
          simp [putAll, dstAt, Act.put]
          go_wp2_with fail
          go_ret
          exact ⟨rfl, (unhide KB).drew.trans (hbel.mono (by omega))⟩
    · obtain ⟨A, hA⟩ : ∃ A : Int, a4 = A := ⟨_, rfl⟩
      subst hA
      have hA0 : 0 ≤ a4 := by omega
      have hd : decide (a4 < 0) = false := by simpa using hneg
      go_wp2_with fail
      generalize a4 = A at *
      clear hcv hd
      generalize hg : w3.heap.size = g at *
      obtain ⟨Kn, hKn⟩ : ∃ Kn : Nat, (A % n).toNat = Kn := ⟨_, rfl⟩
      have hK0 : 0 ≤ A % n := Int.emod_nonneg _ (by omega)
      have hK1 : A % n < n := Int.emod_lt_of_pos _ (by omega)
      have hKlt : Kn < n := by omega
      have hrem : A.tmod n = A % n := Int.tmod_eq_emod_of_nonneg hA0
      have hnz : ¬ n = 0 := by omega
      have hon : ∀ {u : World}, Below V.heap.size V.drew u → Bts u g t.data.toList := fun {u} hb => hVt.on (hdrew hb)
      have hlt : Kn < t.data.toList.length := by rw [Oct.len_eq]; omega
      have hbts : ∀ {u : World}, Below V.heap.size V.drew u → u.cell? ⟨g, Kn, none⟩ = some (.int .u8 ((t.data.toList.getD Kn 0).toNat : Int)) := fun {u} hb => (hon hb Kn hlt).1
      have hbtf : ∀ {u : World}, Below V.heap.size V.drew u → u.frozen? ⟨g, Kn, none⟩ = false := fun {u} hb => (hon hb Kn hlt).2
      generalize hbK : ((t.data.toList.getD Kn 0).toNat : Int) = bK at *
      obtain ⟨X, hX⟩ : ∃ X : Int, bits .xor .u8 bK a5 = X := ⟨_, rfl⟩
      have hXb := bounds_u8 (wf_bits .xor .u8 bK a5)
      rw [hX] at hXb
      obtain ⟨hX0, hX1⟩ := hXb
      refine wp_region_grow_store (by kernel_rfl) [.slice (some ⟨g, 0, none⟩) n c, .int .i64 A, .slice (some ⟨g, 0, none⟩) n c, .int .i64 n, .int .i64 (A % n), .slice (some ⟨g, 0, none⟩) n c, .int .i64 A, .slice (some ⟨g, 0, none⟩) n c, .int .i64 n, .int .i64 (A % n), .pointer (some ⟨g, Kn, none⟩), .int .u8 bK, .int .u8 a5, .int .u8 X, .pointer (some ⟨g, Kn, none⟩), undef] 15 (fun v => v.setCell ⟨g, Kn, none⟩ (.int .u8 X)) (by kernel_rfl) (by decide) rfl ?op ?store ?fin
      case op =>
        intro i o bx u ho hne hbel hS
        match i, ho with
        | 0, ho =>
          obtain rfl := Option.some.inj ho
          have d16 : bx.tmps.getD 16 undef = .slice (some ⟨g, 0, none⟩) n c := hS.base 16 (by kernel_rfl)
          refine .inl ⟨rfl, ends_value (c := .slice (some ⟨g, 0, none⟩) n c) ?_⟩
          simp [execOp, Act.eval, d16]
        | 1, ho =>
          obtain rfl := Option.some.inj ho
          have d4 : bx.tmps.getD 4 undef = .int .i64 A := hS.base 4 (by kernel_rfl)
          refine .inl ⟨rfl, ends_value (c := .int .i64 A) ?_⟩
          simp [execOp, Act.eval, d4]
        | 2, ho =>
          obtain rfl := Option.some.inj ho
          have d16 : bx.tmps.getD 16 undef = .slice (some ⟨g, 0, none⟩) n c := hS.base 16 (by kernel_rfl)
          refine .inl ⟨rfl, ends_value (c := .slice (some ⟨g, 0, none⟩) n c) ?_⟩
          simp [execOp, Act.eval, d16]
        | 3, ho =>
          obtain rfl := Option.some.inj ho
          have d47 : bx.tmps.getD 47 undef = .slice (some ⟨g, 0, none⟩) n c := hS.dep 2 47 (by kernel_rfl) (by kernel_rfl)
          refine .inl ⟨rfl, ends_value (c := .int .i64 n) ?_⟩
          simp [Act.eval, d47, go_sem]
        | 4, ho =>
          obtain rfl := Option.some.inj ho
          have d46 : bx.tmps.getD 46 undef = .int .i64 A := hS.dep 1 46 (by kernel_rfl) (by kernel_rfl)
          have d48 : bx.tmps.getD 48 undef = .int .i64 n := hS.dep 3 48 (by kernel_rfl) (by kernel_rfl)
          refine .inl ⟨rfl, ends_value (c := .int .i64 (A % n)) ?_⟩
          simp [Act.eval, d46, d48, go_sem, hrem, hnz]
        | 5, ho =>
          obtain rfl := Option.some.inj ho
          have d16 : bx.tmps.getD 16 undef = .slice (some ⟨g, 0, none⟩) n c := hS.base 16 (by kernel_rfl)
          refine .inl ⟨rfl, ends_value (c := .slice (some ⟨g, 0, none⟩) n c) ?_⟩
          simp [execOp, Act.eval, d16]
        | 6, ho =>
          obtain rfl := Option.some.inj ho
          have d4 : bx.tmps.getD 4 undef = .int .i64 A := hS.base 4 (by kernel_rfl)
          refine .inl ⟨rfl, ends_value (c := .int .i64 A) ?_⟩
          simp [execOp, Act.eval, d4]
        | 7, ho =>
          obtain rfl := Option.some.inj ho
          have d16 : bx.tmps.getD 16 undef = .slice (some ⟨g, 0, none⟩) n c := hS.base 16 (by kernel_rfl)
          refine .inl ⟨rfl, ends_value (c := .slice (some ⟨g, 0, none⟩) n c) ?_⟩
          simp [execOp, Act.eval, d16]
        | 8, ho =>
          obtain rfl := Option.some.inj ho
          have d52 : bx.tmps.getD 52 undef = .slice (some ⟨g, 0, none⟩) n c := hS.dep 7 52 (by kernel_rfl) (by kernel_rfl)
          refine .inl ⟨rfl, ends_value (c := .int .i64 n) ?_⟩
          simp [Act.eval, d52, go_sem]
        | 9, ho =>
          obtain rfl := Option.some.inj ho
          have d51 : bx.tmps.getD 51 undef = .int .i64 A := hS.dep 6 51 (by kernel_rfl) (by kernel_rfl)
          have d53 : bx.tmps.getD 53 undef = .int .i64 n := hS.dep 8 53 (by kernel_rfl) (by kernel_rfl)
          refine .inl ⟨rfl, ends_value (c := .int .i64 (A % n)) ?_⟩
          simp [Act.eval, d51, d53, go_sem, hrem, hnz]
        | 10, ho =>
          obtain rfl := Option.some.inj ho
          have d50 : bx.tmps.getD 50 undef = .slice (some ⟨g, 0, none⟩) n c := hS.dep 5 50 (by kernel_rfl) (by kernel_rfl)
          have d54 : bx.tmps.getD 54 undef = .int .i64 (A % n) := hS.dep 9 54 (by kernel_rfl) (by kernel_rfl)
          refine .inl ⟨rfl, ends_value (c := .pointer (some ⟨g, Kn, none⟩)) ?_⟩
          simp [Act.eval, d50, d54, go_sem, hK0, hK1, hKn]
        | 11, ho =>
          obtain rfl := Option.some.inj ho
          have d55 : bx.tmps.getD 55 undef = .pointer (some ⟨g, Kn, none⟩) := hS.dep 10 55 (by kernel_rfl) (by kernel_rfl)
          have hl := (hbts (hbel (by kernel_rfl)))
          refine .inl ⟨rfl, ends_value (c := .int .u8 bK) ?_⟩
          simp [Act.eval, d55, go_sem, hl]
        | 12, ho =>
          obtain rfl := Option.some.inj ho
          have d5 : bx.tmps.getD 5 undef = .int .u8 a5 := hS.base 5 (by kernel_rfl)
          refine .inl ⟨rfl, ends_value (c := .int .u8 a5) ?_⟩
          simp [execOp, Act.eval, d5]
        | 13, ho =>
          obtain rfl := Option.some.inj ho
          have d56 : bx.tmps.getD 56 undef = .int .u8 bK := hS.dep 11 56 (by kernel_rfl) (by kernel_rfl)
          have d57 : bx.tmps.getD 57 undef = .int .u8 a5 := hS.dep 12 57 (by kernel_rfl) (by kernel_rfl)
          refine .inl ⟨rfl, ends_value (c := .int .u8 X) ?_⟩
          simp [Act.eval, d56, d57, go_sem, hX]
        | 14, ho =>
          obtain rfl := Option.some.inj ho
          have d45 : bx.tmps.getD 45 undef = .slice (some ⟨g, 0, none⟩) n c := hS.dep 0 45 (by kernel_rfl) (by kernel_rfl)
          have d49 : bx.tmps.getD 49 undef = .int .i64 (A % n) := hS.dep 4 49 (by kernel_rfl) (by kernel_rfl)
          refine .inl ⟨rfl, ends_value (c := .pointer (some ⟨g, Kn, none⟩)) ?_⟩
          simp [Act.eval, d45, d49, go_sem, hK0, hK1, hKn]
        | 15, _ => exact absurd rfl hne
        | n + 16, ho => exact absurd ho (by simp)
      case store =>
        intro o bx u ho hbel hS
        obtain rfl := Option.some.inj ho
        have d59 : bx.tmps.getD 59 undef = .pointer (some ⟨g, Kn, none⟩) := hS.dep 14 59 (by kernel_rfl) (by kernel_rfl)
        have d58 : bx.tmps.getD 58 undef = .int .u8 X := hS.dep 13 58 (by kernel_rfl) (by kernel_rfl)
        have hs1 := hbts hbel
        have hs2 := hbtf hbel
        refine ⟨rfl, ?_⟩
        simp [Act.eval, d59, d58, go_sem, hs1, hs2]
      case fin =>
        intro u hbel
        simp [putAll, dstAt, Act.put]
        have hB2 : Bts (u.setCell ⟨g, Kn, none⟩ (.int .u8 X)) g (t.data.toList.set Kn (UInt8.ofNat X.toNat)) := (hon hbel).set Kn (by rw [Oct.len_eq]; omega) X hX0 (by omega)
        have hbz : Below w.heap.size w (u.setCell ⟨g, Kn, none⟩ (.int .u8 X)) := (hbV.drew.trans (hbel.mono (by omega))).setCell (p := ⟨g, Kn, none⟩) (by simp; omega) _
        have hsz : w.heap.size ≤ (u.setCell ⟨g, Kn, none⟩ (.int .u8 X)).heap.size := hbz.size
        generalize u.setCell ⟨g, Kn, none⟩ (.int .u8 X) = Z at *
        have hlen : (t.data.toList.set Kn (UInt8.ofNat X.toNat)).length = n := by rw [List.length_set, Oct.len_eq]; exact hn
        generalize hL : t.data.toList.set Kn (UInt8.ofNat X.toNat) = L at *
        have htx := hB2.text c
        rw [hlen] at htx
        have hls : (ByteArray.mk L.toArray).size = n := by rw [Oct.mk_size, hlen]
        have hxs : (ByteArray.mk L.toArray).size ≤ 281474976710656 := by rw [hls]; omega
        clear hB2 hL
        go_wp2_with fail
        generalize ByteArray.mk L.toArray = x at *
        clear htx hls
        refine (parse_any x _ hxs).mono ?_
        rintro e v1 ⟨rfl, hc1⟩
        have kb1 := hbz.trans (hc1.mono (by omega))
        have ks1 : w.heap.size ≤ v1.heap.size := kb1.size
        have kn1 := (newHd v1 (parseH x) 24).at_
        have kb2 := kb1.alloc ks1 (.cells #[.int .i64 (parseH x).src, .int .i64 (parseH x).dst, .int .u32 (parseH x).seq, .int .u32 (parseH x).ack, .int .i64 (parseH x).flags, .int .i64 (parseH x).win, .int .i64 (parseH x).urg, .string (parseH x).opts] 24)
        have KN1 := hide kn1
        have KB := hide kb2
        clear hc1 kb1 kn1 kb2
        go_wp2_with fail
        refine (rparse_any x _ hxs).mono ?_
        rintro e v2 ⟨rfl, hc2⟩
        have ks2 : v1.heap.size + 1 ≤ v2.heap.size := by have := hc2.size; simp at this; omega
        have kn1 := (unhide KN1).on hc2 (by simp)
        have kb2 := (unhide KB).trans (hc2.mono (by simp; omega))
        have kn3 := kn1.on (alloc_on v2 (.cells #[.int .i64 (parseH x).src, .int .i64 (parseH x).dst, .int .u32 (parseH x).seq, .int .u32 (parseH x).ack, .int .i64 (parseH x).flags, .int .i64 (parseH x).win, .int .i64 (parseH x).urg, .string (parseH x).opts] 31)) (by omega)
        have kn2 := (newHd v2 (parseH x) 31).at_
        have kb3 := kb2.alloc (by omega) (.cells #[.int .i64 (parseH x).src, .int .i64 (parseH x).dst, .int .u32 (parseH x).seq, .int .u32 (parseH x).ack, .int .i64 (parseH x).flags, .int .i64 (parseH x).win, .int .i64 (parseH x).urg, .string (parseH x).opts] 31)
        have hza : (v2.alloc (.cells #[.int .i64 (parseH x).src, .int .i64 (parseH x).dst, .int .u32 (parseH x).seq, .int .u32 (parseH x).ack, .int .i64 (parseH x).flags, .int .i64 (parseH x).win, .int .i64 (parseH x).urg, .string (parseH x).opts] 31)).heap.size = v2.heap.size + 1 := by simp
        clear KN1 KB hc2 kn1 kb2
        have K1 := hide kn3
        have K2 := hide kn2
        have KB := hide kb3
        clear kn3 kn2 kb3
        go_wp2_with fail
        clear hxs
        generalize v2.alloc (.cells #[.int .i64 (parseH x).src, .int .i64 (parseH x).dst, .int .u32 (parseH x).seq, .int .u32 (parseH x).ack, .int .i64 (parseH x).flags, .int .i64 (parseH x).win, .int .i64 (parseH x).urg, .string (parseH x).opts] 31) = VV at *
        generalize parseH x = Y at *
        generalize parseS x = YS at *
        generalize parseE x = YE at *
        refine wp_region_grow (by kernel_rfl) [.bool true, .bool true, .agg #[.int .i64 Y.src, .int .i64 Y.dst, .int .u32 Y.seq, .int .u32 Y.ack, .int .i64 Y.flags, .int .i64 Y.win, .int .i64 Y.urg, .string Y.opts], .agg #[.int .i64 Y.src, .int .i64 Y.dst, .int .u32 Y.seq, .int .u32 Y.ack, .int .i64 Y.flags, .int .i64 Y.win, .int .i64 Y.urg, .string Y.opts], .agg #[.int .i64 Y.src, .int .i64 Y.dst, .int .u32 Y.seq, .int .u32 Y.ack, .int .i64 Y.flags, .int .i64 Y.win, .int .i64 Y.urg, .string Y.opts], .bool true, .bool true, .bool true, .string YS, .string YS, .bool true, .bool true, .bool true, .int .i64 YE, .int .i64 YE, .bool true, .bool true, .bool true] (by kernel_rfl) ?op ?fin
        case op =>
          intro i o bx u ho hbel hS
          match i, ho with
          | 0, ho =>
            obtain rfl := Option.some.inj ho
            have d13 : bx.tmps.getD 13 undef = .bool true := hS.base 13 (by kernel_rfl)
            refine .inl ⟨rfl, ends_value' (c := .bool true) ?_⟩
            simp [execOp, Act.eval, d13]
          | 1, ho =>
            obtain rfl := Option.some.inj ho
            have d74 : bx.tmps.getD 74 undef = .bool true := hS.dep 0 74 (by kernel_rfl) (by kernel_rfl)
            refine .inl ⟨rfl, ends_value' (c := .bool true) ?_⟩
            simp [execOp, Act.eval, d74]
          | 2, ho =>
            obtain rfl := Option.some.inj ho
            have d17 : bx.tmps.getD 17 undef = .pointer (some ⟨v1.heap.size, 0, none⟩) := hS.base 17 (by kernel_rfl)
            have gd : bx.tmps.getD 75 undef = .bool true := hS.dep 1 75 (by kernel_rfl) (by kernel_rfl)
            have g := (unhide K1).on (hdrew hbel) (by omega)
            have g0 := g 0 (by decide)
            have g1 := g 1 (by decide)
            have g2 := g 2 (by decide)
            have g3 := g 3 (by decide)
            have g4 := g 4 (by decide)
            have g5 := g 5 (by decide)
            have g6 := g 6 (by decide)
            have g7 := g 7 (by decide)
            simp only [hcell] at g0 g1 g2 g3 g4 g5 g6 g7
            refine .inl ⟨wanted_yes (j := 1) (t := 75) (c := true) (by kernel_rfl) (by kernel_rfl) gd, ends_value' (c := .agg #[.int .i64 Y.src, .int .i64 Y.dst, .int .u32 Y.seq, .int .u32 Y.ack, .int .i64 Y.flags, .int .i64 Y.win, .int .i64 Y.urg, .string Y.opts]) ?_⟩
            simp [Act.eval, d17, go_sem, g0, g1, g2, g3, g4, g5, g6, g7]
          | 3, ho =>
            obtain rfl := Option.some.inj ho
            have d76 : bx.tmps.getD 76 undef = .agg #[.int .i64 Y.src, .int .i64 Y.dst, .int .u32 Y.seq, .int .u32 Y.ack, .int .i64 Y.flags, .int .i64 Y.win, .int .i64 Y.urg, .string Y.opts] := hS.dep 2 76 (by kernel_rfl) (by kernel_rfl)
            have gd : bx.tmps.getD 75 undef = .bool true := hS.dep 1 75 (by kernel_rfl) (by kernel_rfl)
            refine .inl ⟨wanted_yes (j := 1) (t := 75) (c := true) (by kernel_rfl) (by kernel_rfl) gd, ends_call' (c := .agg #[.int .i64 Y.src, .int .i64 Y.dst, .int .u32 Y.seq, .int .u32 Y.ack, .int .i64 Y.flags, .int .i64 Y.win, .int .i64 Y.urg, .string Y.opts]) (f := 13) (args := #[Y.val]) ?_ (ref_any Y u)⟩
            simp [Act.eval, d76, go_sem]
          | 4, ho =>
            obtain rfl := Option.some.inj ho
            have d20 : bx.tmps.getD 20 undef = .pointer (some ⟨v2.heap.size, 0, none⟩) := hS.base 20 (by kernel_rfl)
            have gd : bx.tmps.getD 75 undef = .bool true := hS.dep 1 75 (by kernel_rfl) (by kernel_rfl)
            have g := (unhide K2).on (hdrew hbel) (by omega)
            have g0 := g 0 (by decide)
            have g1 := g 1 (by decide)
            have g2 := g 2 (by decide)
            have g3 := g 3 (by decide)
            have g4 := g 4 (by decide)
            have g5 := g 5 (by decide)
            have g6 := g 6 (by decide)
            have g7 := g 7 (by decide)
            simp only [hcell] at g0 g1 g2 g3 g4 g5 g6 g7
            refine .inl ⟨wanted_yes (j := 1) (t := 75) (c := true) (by kernel_rfl) (by kernel_rfl) gd, ends_value' (c := .agg #[.int .i64 Y.src, .int .i64 Y.dst, .int .u32 Y.seq, .int .u32 Y.ack, .int .i64 Y.flags, .int .i64 Y.win, .int .i64 Y.urg, .string Y.opts]) ?_⟩
            simp [Act.eval, d20, go_sem, g0, g1, g2, g3, g4, g5, g6, g7]
          | 5, ho =>
            obtain rfl := Option.some.inj ho
            have d77 : bx.tmps.getD 77 undef = .agg #[.int .i64 Y.src, .int .i64 Y.dst, .int .u32 Y.seq, .int .u32 Y.ack, .int .i64 Y.flags, .int .i64 Y.win, .int .i64 Y.urg, .string Y.opts] := hS.dep 3 77 (by kernel_rfl) (by kernel_rfl)
            have d78 : bx.tmps.getD 78 undef = .agg #[.int .i64 Y.src, .int .i64 Y.dst, .int .u32 Y.seq, .int .u32 Y.ack, .int .i64 Y.flags, .int .i64 Y.win, .int .i64 Y.urg, .string Y.opts] := hS.dep 4 78 (by kernel_rfl) (by kernel_rfl)
            have gd : bx.tmps.getD 75 undef = .bool true := hS.dep 1 75 (by kernel_rfl) (by kernel_rfl)
            refine .inl ⟨wanted_yes (j := 1) (t := 75) (c := true) (by kernel_rfl) (by kernel_rfl) gd, ends_value' (c := .bool true) ?_⟩
            simp [Act.eval, d77, d78, go_sem]
          | 6, ho =>
            obtain rfl := Option.some.inj ho
            have d75 : bx.tmps.getD 75 undef = .bool true := hS.dep 1 75 (by kernel_rfl) (by kernel_rfl)
            have d79 : bx.tmps.getD 79 undef = .bool true := hS.dep 5 79 (by kernel_rfl) (by kernel_rfl)
            refine .inl ⟨rfl, ends_value' (c := .bool true) ?_⟩
            simp [Act.eval, d75, d79, go_sem]
          | 7, ho =>
            obtain rfl := Option.some.inj ho
            have d80 : bx.tmps.getD 80 undef = .bool true := hS.dep 6 80 (by kernel_rfl) (by kernel_rfl)
            refine .inl ⟨rfl, ends_value' (c := .bool true) ?_⟩
            simp [execOp, Act.eval, d80]
          | 8, ho =>
            obtain rfl := Option.some.inj ho
            have d18 : bx.tmps.getD 18 undef = .string YS := hS.base 18 (by kernel_rfl)
            have gd : bx.tmps.getD 81 undef = .bool true := hS.dep 7 81 (by kernel_rfl) (by kernel_rfl)
            refine .inl ⟨wanted_yes (j := 7) (t := 81) (c := true) (by kernel_rfl) (by kernel_rfl) gd, ends_value' (c := .string YS) ?_⟩
            simp [execOp, Act.eval, d18]
          | 9, ho =>
            obtain rfl := Option.some.inj ho
            have d21 : bx.tmps.getD 21 undef = .string YS := hS.base 21 (by kernel_rfl)
            have gd : bx.tmps.getD 81 undef = .bool true := hS.dep 7 81 (by kernel_rfl) (by kernel_rfl)
            refine .inl ⟨wanted_yes (j := 7) (t := 81) (c := true) (by kernel_rfl) (by kernel_rfl) gd, ends_value' (c := .string YS) ?_⟩
            simp [execOp, Act.eval, d21]
          | 10, ho =>
            obtain rfl := Option.some.inj ho
            have d82 : bx.tmps.getD 82 undef = .string YS := hS.dep 8 82 (by kernel_rfl) (by kernel_rfl)
            have d83 : bx.tmps.getD 83 undef = .string YS := hS.dep 9 83 (by kernel_rfl) (by kernel_rfl)
            have gd : bx.tmps.getD 81 undef = .bool true := hS.dep 7 81 (by kernel_rfl) (by kernel_rfl)
            refine .inl ⟨wanted_yes (j := 7) (t := 81) (c := true) (by kernel_rfl) (by kernel_rfl) gd, ends_value' (c := .bool true) ?_⟩
            simp [Act.eval, d82, d83, go_sem]
          | 11, ho =>
            obtain rfl := Option.some.inj ho
            have d81 : bx.tmps.getD 81 undef = .bool true := hS.dep 7 81 (by kernel_rfl) (by kernel_rfl)
            have d84 : bx.tmps.getD 84 undef = .bool true := hS.dep 10 84 (by kernel_rfl) (by kernel_rfl)
            refine .inl ⟨rfl, ends_value' (c := .bool true) ?_⟩
            simp [Act.eval, d81, d84, go_sem]
          | 12, ho =>
            obtain rfl := Option.some.inj ho
            have d85 : bx.tmps.getD 85 undef = .bool true := hS.dep 11 85 (by kernel_rfl) (by kernel_rfl)
            refine .inl ⟨rfl, ends_value' (c := .bool true) ?_⟩
            simp [execOp, Act.eval, d85]
          | 13, ho =>
            obtain rfl := Option.some.inj ho
            have d19 : bx.tmps.getD 19 undef = .int .i64 YE := hS.base 19 (by kernel_rfl)
            have gd : bx.tmps.getD 86 undef = .bool true := hS.dep 12 86 (by kernel_rfl) (by kernel_rfl)
            refine .inl ⟨wanted_yes (j := 12) (t := 86) (c := true) (by kernel_rfl) (by kernel_rfl) gd, ends_value' (c := .int .i64 YE) ?_⟩
            simp [execOp, Act.eval, d19]
          | 14, ho =>
            obtain rfl := Option.some.inj ho
            have d22 : bx.tmps.getD 22 undef = .int .i64 YE := hS.base 22 (by kernel_rfl)
            have gd : bx.tmps.getD 86 undef = .bool true := hS.dep 12 86 (by kernel_rfl) (by kernel_rfl)
            refine .inl ⟨wanted_yes (j := 12) (t := 86) (c := true) (by kernel_rfl) (by kernel_rfl) gd, ends_value' (c := .int .i64 YE) ?_⟩
            simp [execOp, Act.eval, d22]
          | 15, ho =>
            obtain rfl := Option.some.inj ho
            have d87 : bx.tmps.getD 87 undef = .int .i64 YE := hS.dep 13 87 (by kernel_rfl) (by kernel_rfl)
            have d88 : bx.tmps.getD 88 undef = .int .i64 YE := hS.dep 14 88 (by kernel_rfl) (by kernel_rfl)
            have gd : bx.tmps.getD 86 undef = .bool true := hS.dep 12 86 (by kernel_rfl) (by kernel_rfl)
            refine .inl ⟨wanted_yes (j := 12) (t := 86) (c := true) (by kernel_rfl) (by kernel_rfl) gd, ends_value' (c := .bool true) ?_⟩
            simp [Act.eval, d87, d88, go_sem]
          | 16, ho =>
            obtain rfl := Option.some.inj ho
            have d86 : bx.tmps.getD 86 undef = .bool true := hS.dep 12 86 (by kernel_rfl) (by kernel_rfl)
            have d89 : bx.tmps.getD 89 undef = .bool true := hS.dep 15 89 (by kernel_rfl) (by kernel_rfl)
            refine .inl ⟨rfl, ends_value' (c := .bool true) ?_⟩
            simp [Act.eval, d86, d89, go_sem]
          | 17, ho =>
            obtain rfl := Option.some.inj ho
            have d90 : bx.tmps.getD 90 undef = .bool true := hS.dep 16 90 (by kernel_rfl) (by kernel_rfl)
            refine .inl ⟨rfl, ends_value' (c := .bool true) ?_⟩
            simp [execOp, Act.eval, d90]
          | n + 18, ho => exact absurd ho (by simp)
        case fin =>
          intro u hbel
          simp [putAll, dstAt, Act.put]
          go_wp2_with fail
          go_ret
          exact ⟨rfl, (unhide KB).drew.trans (hbel.mono (by omega))⟩

theorem own : ownKnob Try.prog.godebug = none := by kernel_rfl
set_option maxRecDepth 100000 in
theorem lifted (os : Os) (started : os.Started) (H : Type) (enc : TypeId × Value → H) :
    ReturnsInHanded {} Try.checked os 4 .any (Rows.tcpParsesSpec.pre6 enc Try.prog Try.f4 Rows.tcpParsesRow.domain false) (Rows.tcpParsesSpec.post enc Try.prog Try.f4 false true false false) := by
  refine returnsInHanded_of_change_sized (C := Try.checked) own started (by kernel_rfl) Try.func4
    (ChangeSpec.witness6 (enc := enc) (C := Try.checked) false ⟨#[], #[.string ByteArray.empty, .agg #[.int .i64 0, .int .i64 0, .int .u32 0, .int .u32 0, .int .i64 0, .int .i64 0, .int .i64 0, .string ByteArray.empty], .string ByteArray.empty, .bool false, .int .i64 0, .int .u8 0], []⟩ 8 (by kernel_rfl) (by kernel_rfl) (by kernel_rfl) (by kernel_rfl)) ?_
  intro W base args ds gs before hval0 hW hcnd hsz _
  have hval : ∀ (j : Nat) t v, Try.f4.params[j]? = some t → args[j]? = some v → Value.okWide Try.prog W .any base t v := hval0
  have hW' := hW
  obtain ⟨p, q, hA0, hV, rfl, hfz, hnd⟩ := hW
  have hA : DataW.TrodAll enc Try.prog W 0 (fun _ => true) true Try.f4.params.toList args.toList ds p := hA0
  rw [Try.params4] at hA hval
  obtain ⟨v0, vs0, d0, ds0, p0, q0, hargs, rfl, rfl, h0, r0⟩ := trodAll_cons hA
  obtain ⟨v1, vs1, d1, ds1, p1, q1, rfl, rfl, rfl, h1, r1⟩ := trodAll_cons r0
  obtain ⟨v2, vs2, d2, ds2, p2, q2, rfl, rfl, rfl, h2, r2⟩ := trodAll_cons r1
  obtain ⟨v3, vs3, d3, ds3, p3, q3, rfl, rfl, rfl, h3, r3⟩ := trodAll_cons r2
  obtain ⟨v4, vs4, d4, ds4, p4, q4, rfl, rfl, rfl, h4, r4⟩ := trodAll_cons r3
  obtain ⟨v5, vs5, d5, ds5, p5, q5, rfl, rfl, rfl, h5, r5⟩ := trodAll_cons r4
  obtain ⟨rfl, rfl, rfl⟩ := trodAll_nil r5
  obtain rfl : args = #[v0, v1, v2, v3, v4, v5] := by cases args; simp_all
  obtain ⟨rfl, rfl⟩ := trodVars_none hV
  obtain ⟨a0, rfl, rfl, rfl, w0⟩ := open_string Try.underlying9 (hval 0 9 v0 rfl rfl) h0
  obtain ⟨a1, rfl, rfl, rfl, f1⟩ := open_head (hval 1 24 v1 rfl rfl) h1
  obtain ⟨a2, rfl, rfl, rfl, w2⟩ := open_string Try.underlying9 (hval 2 9 v2 rfl rfl) h2
  obtain ⟨a3, rfl, rfl, rfl⟩ := open_bool Try.underlying4 (hval 3 4 v3 rfl rfl) h3
  obtain ⟨a4, rfl, rfl, rfl, w4⟩ := open_int Try.underlying3 (hval 4 3 v4 rfl rfl) h4
  obtain ⟨a5, rfl, rfl, rfl, w5⟩ := open_int Try.underlying5 (hval 5 5 v5 rfl rfl) h5
  clear hA0 hval0
  simp only [List.append_nil] at hW'
  have z0 : a0.size ≤ 140737488355328 := by
    have hq : a0.data.toList.length ≤ reachBytes := sized_string hsz (j := 0) (t := 9) rfl rfl
    have e : a0.data.toList.length = a0.size := by rw [Array.length_toList]; rfl
    rw [e] at hq
    exact Nat.le_trans hq (by decide)
  have w1 : a1.Wf := f1.wf (sized_head hsz (j := 1) rfl rfl)
  have z2 : a2.size ≤ 140737488355328 := by
    have hq : a2.data.toList.length ≤ reachBytes := sized_string hsz (j := 2) (t := 9) rfl rfl
    have e : a2.data.toList.length = a2.size := by rw [Array.length_toList]; rfl
    rw [e] at hq
    exact Nat.le_trans hq (by decide)
  refine (walk W a0 z0 a1 w1 a2 z2 a3 a4 w4 a5 w5).mono fun e W' ⟨he, bel⟩ => ?_
  subst he
  exact ⟨_, rfl, _, _, _, [], _, [], hW', (trodAll_cons_mk (shut_bool Try.underlying4 _) trodAll_mk0), (trodAll_cons_mk (shut_string Try.underlying9 w0) (trodAll_cons_mk (shut_head a1 f1) (trodAll_cons_mk (shut_string Try.underlying9 w2) (trodAll_cons_mk (shut_bool Try.underlying4 _) (trodAll_cons_mk (shut_int Try.underlying3 w4) (trodAll_cons_mk (shut_int Try.underlying5 w5) trodAll_mk0)))))), rfl, bel.frame _, fun h => by cases h⟩

theorem over : Rows.tcpParsesRow.holds Try.pinned (OpenSpec.ofChange Rows.tcpParsesSpec) :=
  OpenClaim.holds_of_wide 4 Try.f4 rfl rfl rfl rfl rfl rfl rfl ⟨rfl, rfl, rfl, rfl, rfl⟩ rfl rfl rfl rfl rfl (by kernel_rfl) Try.func4 (by kernel_rfl)
    (of_decide_eq_true (by kernel_rfl)) (by unfold Func.isWrapper; first | (rw [if_pos (by decide +kernel)]; kernel_rfl) | (rw [if_neg (by decide +kernel)]; exact ⟨rfl, rfl⟩))
    (fun os started H enc _ => lifted os started H enc)

theorem proved : Rows.TcpParsesSaid := over
#print axioms proved
end Go.Proofs.Ytgfmpcfdggcifaa.tcpParses
