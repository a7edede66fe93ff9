/- The law Ip4Parses returns true for every text, header, body, and byte that is another one: what Parse and Size answer is what the reference answers. -/
import Derived.Test.YtfppjpcolohmfaaRows
import Derived.OpenShut
import Derived.ShutString
import Derived.ChangeOld
import Derived.Below
import Derived.SizedLaws
import Derived.Test.YtfppjpcolohmfaaIpOpen
import Derived.Test.YtfppjpcolohmfaaIpRefB
import Derived.Test.YtfppjpcolohmfaaIpRefP
import Derived.Test.YtfppjpcolohmfaaIpKept
import Derived.Test.YtfppjpcolohmfaaCkChg
namespace Go.Proofs.Ytfppjpcolohmfaa.ip4Parses
open Go.ChangeShapes Go.WideShapes Go.ChangeAt Go.RowKit
open Go.ChangeMaps (open_string shut_string)
set_option linter.unusedVariables false
theorem hdrew {V u : World} {B : Nat} (hb : Below B V.drew u) : Below B V u := ⟨hb.os, hb.tape, hb.output, hb.size, hb.block⟩
theorem at_pos (a n : Int) (h0 : 0 ≤ a) (h1 : 0 < n) : a.tmod n = a % n := Int.tmod_eq_emod_of_nonneg h0
set_option maxHeartbeats 4000000 in
set_option maxRecDepth 100000 in
theorem walk (w : World) (a0 : ByteArray) (z0 : a0.size ≤ 140737488355328) (a1 : Hd) (w1 : a1.Wf) (a2 : ByteArray) (z2 : a2.size ≤ 140737488355328) (a3 : Bool) (a4 : Int) (w4 : (Lit.int .i64 a4).wf = true) (a5 : Int) (w5 : (Lit.int .u8 a5).wf = true) (a6 : ByteArray) (z6 : a6.size ≤ 140737488355328) :
    Calls Try.prog 4 #[.string a0, a1.val, .string a2, .bool a3, .int .i64 a4, .int .u8 a5, .string a6] w fun e w' => e = .returned (.bool true) ∧ Below w.heap.size w w' := by
  obtain ⟨x0, x1⟩ := bounds_i64 w4
  obtain ⟨y0, y1⟩ := bounds_u8 w5
  have hk0 := kept_new w a1 24
  go_enter Try.func4, Try.ntmps4
  go_wp2_with fail
  refine (examples_ok _).mono ?_
  rintro e w1' ⟨rfl, hb1⟩
  have hk1 := hk0.on hb1
  clear hb1 hk0
  have q0 := (hk1.at_) 0 (by decide)
  have q1 := (hk1.at_) 1 (by decide)
  have q2 := (hk1.at_) 2 (by decide)
  have q3 := (hk1.at_) 3 (by decide)
  have q4 := (hk1.at_) 4 (by decide)
  have q5 := (hk1.at_) 5 (by decide)
  have q6 := (hk1.at_) 6 (by decide)
  have q7 := (hk1.at_) 7 (by decide)
  have q8 := (hk1.at_) 8 (by decide)
  simp only [hcell] at q0 q1 q2 q3 q4 q5 q6 q7 q8
  have HK := hide hk1
  clear hk1
  go_wp2_with fail
  refine (ref_any a1 _).mono ?_
  rintro e w2 ⟨rfl, hb2⟩
  have hk2 := (unhide HK).on hb2
  clear HK hb2
  clear q0 q1 q2 q3 q4 q5 q6 q7 q8
  have HK := hide hk2
  clear hk2
  go_wp2_with fail
  refine (rbuild_any a1 a2 _ w1 z2).mono ?_
  rintro e w3 ⟨rfl, hb3⟩
  have hk3 := (unhide HK).on hb3
  clear HK hb3
  have HB := hide hk3.below
  have hsz3 := hk3.below.size
  clear hk3
  by_cases hown : a3 = true ∧ buildE a1 a2 = 0
  case neg =>
    have hxs : a0.size ≤ 281474976710656 := by omega
    cases a3 with
    | false =>
      clear hown
      go_wp2_with fail
      refine (parse_any a0 _ hxs).mono ?_
      rintro e v1 ⟨rfl, hc1⟩
      have kb1 := (unhide HB).trans (hc1.mono hsz3)
      have ks1 : w.heap.size ≤ v1.heap.size := kb1.size
      have kn1 := (newHd v1 (parseH a0) 24).at_
      have kb2 := kb1.alloc ks1 (.cells #[.int .i64 (parseH a0).tos, .int .i64 (parseH a0).id, .int .i64 (parseH a0).flags, .int .i64 (parseH a0).frag, .int .i64 (parseH a0).ttl, .int .i64 (parseH a0).proto, .int .u32 (parseH a0).src, .int .u32 (parseH a0).dst, .string (parseH a0).opts] 24)
      have KN1 := hide kn1
      have KB := hide kb2
      clear hc1 kb1 kn1 kb2
      go_wp2_with fail
      refine (rparse_any a0 _ hxs).mono ?_
      rintro e v2 ⟨rfl, hc2⟩
      have ks2 : v1.heap.size + 1 ≤ v2.heap.size := by have := hc2.size; simp at this; omega
      have kn1 := (unhide KN1).on hc2 (by simp)
      have kb2 := (unhide KB).trans (hc2.mono (by simp; omega))
      have kn3 := kn1.on (alloc_on v2 (.cells #[.int .i64 (parseH a0).tos, .int .i64 (parseH a0).id, .int .i64 (parseH a0).flags, .int .i64 (parseH a0).frag, .int .i64 (parseH a0).ttl, .int .i64 (parseH a0).proto, .int .u32 (parseH a0).src, .int .u32 (parseH a0).dst, .string (parseH a0).opts] 31)) (by omega)
      have kn2 := (newHd v2 (parseH a0) 31).at_
      have kb3 := kb2.alloc (by omega) (.cells #[.int .i64 (parseH a0).tos, .int .i64 (parseH a0).id, .int .i64 (parseH a0).flags, .int .i64 (parseH a0).frag, .int .i64 (parseH a0).ttl, .int .i64 (parseH a0).proto, .int .u32 (parseH a0).src, .int .u32 (parseH a0).dst, .string (parseH a0).opts] 31)
      clear KN1 KB hc2 kn1 kb2
      have K1 := hide kn3
      have K2 := hide kn2
      have KB := hide kb3
      clear kn3 kn2 kb3
      go_wp2_with fail
      refine (size_of_any a0 _ hxs).mono ?_
      rintro e v3 ⟨rfl, hc3⟩
      have ks3 : v2.heap.size + 1 ≤ v3.heap.size := by have := hc3.size; simp at this; omega
      have kn1 := (unhide K1).on hc3 (by simp; omega)
      have kn2 := (unhide K2).on hc3 (by simp)
      have kb3 := (unhide KB).trans (hc3.mono (by simp; omega))
      clear K1 K2 KB hc3
      have K1 := hide kn1
      have K2 := hide kn2
      have KB := hide kb3
      clear kn1 kn2 kb3
      go_wp2_with fail
      refine (rsizes_any a0 _ hxs).mono ?_
      rintro e v4 ⟨rfl, he4⟩
      have he4 := he4.symm
      subst he4
      go_wp2_with fail
      clear hxs
      generalize parseH a0 = Y at *
      generalize parseS a0 = YS at *
      generalize parseE a0 = YE at *
      generalize sizeH a0 = YH at *
      generalize sizeT a0 = YT at *
      generalize measE a0 = E at *
      have hEb : (E == 0) = decide (E = 0) := by by_cases h : E = 0 <;> simp [h]
      refine wp_region_grow (by kernel_rfl) [.bool true, .bool true, .agg #[.int .i64 Y.tos, .int .i64 Y.id, .int .i64 Y.flags, .int .i64 Y.frag, .int .i64 Y.ttl, .int .i64 Y.proto, .int .u32 Y.src, .int .u32 Y.dst, .string Y.opts], .agg #[.int .i64 Y.tos, .int .i64 Y.id, .int .i64 Y.flags, .int .i64 Y.frag, .int .i64 Y.ttl, .int .i64 Y.proto, .int .u32 Y.src, .int .u32 Y.dst, .string Y.opts], .agg #[.int .i64 Y.tos, .int .i64 Y.id, .int .i64 Y.flags, .int .i64 Y.frag, .int .i64 Y.ttl, .int .i64 Y.proto, .int .u32 Y.src, .int .u32 Y.dst, .string Y.opts], .bool true, .bool true, .bool true, .string YS, .string YS, .bool true, .bool true, .bool true, .int .i64 YE, .int .i64 YE, .bool true, .bool true, .bool true, .int .i64 YH, .int .i64 YH, .bool true, .bool true, .bool true, .int .i64 YT, .int .i64 YT, .bool true, .bool true, .bool true, .bool (decide (E = 0)), .int .i64 E, .bool (decide (E = 0)), .bool true, .bool true, .bool true] (by kernel_rfl) ?op ?fin
      case op =>
        intro i o bx u ho hbel hS
        match i, ho with
        | 0, ho =>
          obtain rfl := Option.some.inj ho
          have d15 : bx.tmps.getD 15 undef = .bool true := hS.base 15 (by kernel_rfl)
          refine .inl ⟨rfl, ends_value' (c := .bool true) ?_⟩
          simp [execOp, Act.eval, d15]
        | 1, ho =>
          obtain rfl := Option.some.inj ho
          have d96 : bx.tmps.getD 96 undef = .bool true := hS.dep 0 96 (by kernel_rfl) (by kernel_rfl)
          refine .inl ⟨rfl, ends_value' (c := .bool true) ?_⟩
          simp [execOp, Act.eval, d96]
        | 2, ho =>
          obtain rfl := Option.some.inj ho
          have d19 : bx.tmps.getD 19 undef = .pointer (some ⟨v1.heap.size, 0, none⟩) := hS.base 19 (by kernel_rfl)
          have gd : bx.tmps.getD 97 undef = .bool true := hS.dep 1 97 (by kernel_rfl) (by kernel_rfl)
          have g := (unhide K1).on (hdrew hbel) (by omega)
          have g0 := g 0 (by decide)
          have g1 := g 1 (by decide)
          have g2 := g 2 (by decide)
          have g3 := g 3 (by decide)
          have g4 := g 4 (by decide)
          have g5 := g 5 (by decide)
          have g6 := g 6 (by decide)
          have g7 := g 7 (by decide)
          have g8 := g 8 (by decide)
          simp only [hcell] at g0 g1 g2 g3 g4 g5 g6 g7 g8
          refine .inl ⟨wanted_yes (j := 1) (t := 97) (c := true) (by kernel_rfl) (by kernel_rfl) gd, ends_value' (c := .agg #[.int .i64 Y.tos, .int .i64 Y.id, .int .i64 Y.flags, .int .i64 Y.frag, .int .i64 Y.ttl, .int .i64 Y.proto, .int .u32 Y.src, .int .u32 Y.dst, .string Y.opts]) ?_⟩
          simp [Act.eval, d19, go_sem, g0, g1, g2, g3, g4, g5, g6, g7, g8]
        | 3, ho =>
          obtain rfl := Option.some.inj ho
          have d98 : bx.tmps.getD 98 undef = .agg #[.int .i64 Y.tos, .int .i64 Y.id, .int .i64 Y.flags, .int .i64 Y.frag, .int .i64 Y.ttl, .int .i64 Y.proto, .int .u32 Y.src, .int .u32 Y.dst, .string Y.opts] := hS.dep 2 98 (by kernel_rfl) (by kernel_rfl)
          have gd : bx.tmps.getD 97 undef = .bool true := hS.dep 1 97 (by kernel_rfl) (by kernel_rfl)
          refine .inl ⟨wanted_yes (j := 1) (t := 97) (c := true) (by kernel_rfl) (by kernel_rfl) gd, ends_call' (c := .agg #[.int .i64 Y.tos, .int .i64 Y.id, .int .i64 Y.flags, .int .i64 Y.frag, .int .i64 Y.ttl, .int .i64 Y.proto, .int .u32 Y.src, .int .u32 Y.dst, .string Y.opts]) (f := 13) (args := #[Y.val]) ?_ (ref_any Y u)⟩
          simp [Act.eval, d98, go_sem]
        | 4, ho =>
          obtain rfl := Option.some.inj ho
          have d22 : bx.tmps.getD 22 undef = .pointer (some ⟨v2.heap.size, 0, none⟩) := hS.base 22 (by kernel_rfl)
          have gd : bx.tmps.getD 97 undef = .bool true := hS.dep 1 97 (by kernel_rfl) (by kernel_rfl)
          have g := (unhide K2).on (hdrew hbel) (by omega)
          have g0 := g 0 (by decide)
          have g1 := g 1 (by decide)
          have g2 := g 2 (by decide)
          have g3 := g 3 (by decide)
          have g4 := g 4 (by decide)
          have g5 := g 5 (by decide)
          have g6 := g 6 (by decide)
          have g7 := g 7 (by decide)
          have g8 := g 8 (by decide)
          simp only [hcell] at g0 g1 g2 g3 g4 g5 g6 g7 g8
          refine .inl ⟨wanted_yes (j := 1) (t := 97) (c := true) (by kernel_rfl) (by kernel_rfl) gd, ends_value' (c := .agg #[.int .i64 Y.tos, .int .i64 Y.id, .int .i64 Y.flags, .int .i64 Y.frag, .int .i64 Y.ttl, .int .i64 Y.proto, .int .u32 Y.src, .int .u32 Y.dst, .string Y.opts]) ?_⟩
          simp [Act.eval, d22, go_sem, g0, g1, g2, g3, g4, g5, g6, g7, g8]
        | 5, ho =>
          obtain rfl := Option.some.inj ho
          have d99 : bx.tmps.getD 99 undef = .agg #[.int .i64 Y.tos, .int .i64 Y.id, .int .i64 Y.flags, .int .i64 Y.frag, .int .i64 Y.ttl, .int .i64 Y.proto, .int .u32 Y.src, .int .u32 Y.dst, .string Y.opts] := hS.dep 3 99 (by kernel_rfl) (by kernel_rfl)
          have d100 : bx.tmps.getD 100 undef = .agg #[.int .i64 Y.tos, .int .i64 Y.id, .int .i64 Y.flags, .int .i64 Y.frag, .int .i64 Y.ttl, .int .i64 Y.proto, .int .u32 Y.src, .int .u32 Y.dst, .string Y.opts] := hS.dep 4 100 (by kernel_rfl) (by kernel_rfl)
          have gd : bx.tmps.getD 97 undef = .bool true := hS.dep 1 97 (by kernel_rfl) (by kernel_rfl)
          refine .inl ⟨wanted_yes (j := 1) (t := 97) (c := true) (by kernel_rfl) (by kernel_rfl) gd, ends_value' (c := .bool true) ?_⟩
          simp [Act.eval, d99, d100, go_sem]
        | 6, ho =>
          obtain rfl := Option.some.inj ho
          have d97 : bx.tmps.getD 97 undef = .bool true := hS.dep 1 97 (by kernel_rfl) (by kernel_rfl)
          have d101 : bx.tmps.getD 101 undef = .bool true := hS.dep 5 101 (by kernel_rfl) (by kernel_rfl)
          refine .inl ⟨rfl, ends_value' (c := .bool true) ?_⟩
          simp [Act.eval, d97, d101, go_sem]
        | 7, ho =>
          obtain rfl := Option.some.inj ho
          have d102 : bx.tmps.getD 102 undef = .bool true := hS.dep 6 102 (by kernel_rfl) (by kernel_rfl)
          refine .inl ⟨rfl, ends_value' (c := .bool true) ?_⟩
          simp [execOp, Act.eval, d102]
        | 8, ho =>
          obtain rfl := Option.some.inj ho
          have d20 : bx.tmps.getD 20 undef = .string YS := hS.base 20 (by kernel_rfl)
          have gd : bx.tmps.getD 103 undef = .bool true := hS.dep 7 103 (by kernel_rfl) (by kernel_rfl)
          refine .inl ⟨wanted_yes (j := 7) (t := 103) (c := true) (by kernel_rfl) (by kernel_rfl) gd, ends_value' (c := .string YS) ?_⟩
          simp [execOp, Act.eval, d20]
        | 9, ho =>
          obtain rfl := Option.some.inj ho
          have d23 : bx.tmps.getD 23 undef = .string YS := hS.base 23 (by kernel_rfl)
          have gd : bx.tmps.getD 103 undef = .bool true := hS.dep 7 103 (by kernel_rfl) (by kernel_rfl)
          refine .inl ⟨wanted_yes (j := 7) (t := 103) (c := true) (by kernel_rfl) (by kernel_rfl) gd, ends_value' (c := .string YS) ?_⟩
          simp [execOp, Act.eval, d23]
        | 10, ho =>
          obtain rfl := Option.some.inj ho
          have d104 : bx.tmps.getD 104 undef = .string YS := hS.dep 8 104 (by kernel_rfl) (by kernel_rfl)
          have d105 : bx.tmps.getD 105 undef = .string YS := hS.dep 9 105 (by kernel_rfl) (by kernel_rfl)
          have gd : bx.tmps.getD 103 undef = .bool true := hS.dep 7 103 (by kernel_rfl) (by kernel_rfl)
          refine .inl ⟨wanted_yes (j := 7) (t := 103) (c := true) (by kernel_rfl) (by kernel_rfl) gd, ends_value' (c := .bool true) ?_⟩
          simp [Act.eval, d104, d105, go_sem]
        | 11, ho =>
          obtain rfl := Option.some.inj ho
          have d103 : bx.tmps.getD 103 undef = .bool true := hS.dep 7 103 (by kernel_rfl) (by kernel_rfl)
          have d106 : bx.tmps.getD 106 undef = .bool true := hS.dep 10 106 (by kernel_rfl) (by kernel_rfl)
          refine .inl ⟨rfl, ends_value' (c := .bool true) ?_⟩
          simp [Act.eval, d103, d106, go_sem]
        | 12, ho =>
          obtain rfl := Option.some.inj ho
          have d107 : bx.tmps.getD 107 undef = .bool true := hS.dep 11 107 (by kernel_rfl) (by kernel_rfl)
          refine .inl ⟨rfl, ends_value' (c := .bool true) ?_⟩
          simp [execOp, Act.eval, d107]
        | 13, ho =>
          obtain rfl := Option.some.inj ho
          have d21 : bx.tmps.getD 21 undef = .int .i64 YE := hS.base 21 (by kernel_rfl)
          have gd : bx.tmps.getD 108 undef = .bool true := hS.dep 12 108 (by kernel_rfl) (by kernel_rfl)
          refine .inl ⟨wanted_yes (j := 12) (t := 108) (c := true) (by kernel_rfl) (by kernel_rfl) gd, ends_value' (c := .int .i64 YE) ?_⟩
          simp [execOp, Act.eval, d21]
        | 14, ho =>
          obtain rfl := Option.some.inj ho
          have d24 : bx.tmps.getD 24 undef = .int .i64 YE := hS.base 24 (by kernel_rfl)
          have gd : bx.tmps.getD 108 undef = .bool true := hS.dep 12 108 (by kernel_rfl) (by kernel_rfl)
          refine .inl ⟨wanted_yes (j := 12) (t := 108) (c := true) (by kernel_rfl) (by kernel_rfl) gd, ends_value' (c := .int .i64 YE) ?_⟩
          simp [execOp, Act.eval, d24]
        | 15, ho =>
          obtain rfl := Option.some.inj ho
          have d109 : bx.tmps.getD 109 undef = .int .i64 YE := hS.dep 13 109 (by kernel_rfl) (by kernel_rfl)
          have d110 : bx.tmps.getD 110 undef = .int .i64 YE := hS.dep 14 110 (by kernel_rfl) (by kernel_rfl)
          have gd : bx.tmps.getD 108 undef = .bool true := hS.dep 12 108 (by kernel_rfl) (by kernel_rfl)
          refine .inl ⟨wanted_yes (j := 12) (t := 108) (c := true) (by kernel_rfl) (by kernel_rfl) gd, ends_value' (c := .bool true) ?_⟩
          simp [Act.eval, d109, d110, go_sem]
        | 16, ho =>
          obtain rfl := Option.some.inj ho
          have d108 : bx.tmps.getD 108 undef = .bool true := hS.dep 12 108 (by kernel_rfl) (by kernel_rfl)
          have d111 : bx.tmps.getD 111 undef = .bool true := hS.dep 15 111 (by kernel_rfl) (by kernel_rfl)
          refine .inl ⟨rfl, ends_value' (c := .bool true) ?_⟩
          simp [Act.eval, d108, d111, go_sem]
        | 17, ho =>
          obtain rfl := Option.some.inj ho
          have d112 : bx.tmps.getD 112 undef = .bool true := hS.dep 16 112 (by kernel_rfl) (by kernel_rfl)
          refine .inl ⟨rfl, ends_value' (c := .bool true) ?_⟩
          simp [execOp, Act.eval, d112]
        | 18, ho =>
          obtain rfl := Option.some.inj ho
          have d25 : bx.tmps.getD 25 undef = .int .i64 YH := hS.base 25 (by kernel_rfl)
          have gd : bx.tmps.getD 113 undef = .bool true := hS.dep 17 113 (by kernel_rfl) (by kernel_rfl)
          refine .inl ⟨wanted_yes (j := 17) (t := 113) (c := true) (by kernel_rfl) (by kernel_rfl) gd, ends_value' (c := .int .i64 YH) ?_⟩
          simp [execOp, Act.eval, d25]
        | 19, ho =>
          obtain rfl := Option.some.inj ho
          have d28 : bx.tmps.getD 28 undef = .int .i64 YH := hS.base 28 (by kernel_rfl)
          have gd : bx.tmps.getD 113 undef = .bool true := hS.dep 17 113 (by kernel_rfl) (by kernel_rfl)
          refine .inl ⟨wanted_yes (j := 17) (t := 113) (c := true) (by kernel_rfl) (by kernel_rfl) gd, ends_value' (c := .int .i64 YH) ?_⟩
          simp [execOp, Act.eval, d28]
        | 20, ho =>
          obtain rfl := Option.some.inj ho
          have d114 : bx.tmps.getD 114 undef = .int .i64 YH := hS.dep 18 114 (by kernel_rfl) (by kernel_rfl)
          have d115 : bx.tmps.getD 115 undef = .int .i64 YH := hS.dep 19 115 (by kernel_rfl) (by kernel_rfl)
          have gd : bx.tmps.getD 113 undef = .bool true := hS.dep 17 113 (by kernel_rfl) (by kernel_rfl)
          refine .inl ⟨wanted_yes (j := 17) (t := 113) (c := true) (by kernel_rfl) (by kernel_rfl) gd, ends_value' (c := .bool true) ?_⟩
          simp [Act.eval, d114, d115, go_sem]
        | 21, ho =>
          obtain rfl := Option.some.inj ho
          have d113 : bx.tmps.getD 113 undef = .bool true := hS.dep 17 113 (by kernel_rfl) (by kernel_rfl)
          have d116 : bx.tmps.getD 116 undef = .bool true := hS.dep 20 116 (by kernel_rfl) (by kernel_rfl)
          refine .inl ⟨rfl, ends_value' (c := .bool true) ?_⟩
          simp [Act.eval, d113, d116, go_sem]
        | 22, ho =>
          obtain rfl := Option.some.inj ho
          have d117 : bx.tmps.getD 117 undef = .bool true := hS.dep 21 117 (by kernel_rfl) (by kernel_rfl)
          refine .inl ⟨rfl, ends_value' (c := .bool true) ?_⟩
          simp [execOp, Act.eval, d117]
        | 23, ho =>
          obtain rfl := Option.some.inj ho
          have d26 : bx.tmps.getD 26 undef = .int .i64 YT := hS.base 26 (by kernel_rfl)
          have gd : bx.tmps.getD 118 undef = .bool true := hS.dep 22 118 (by kernel_rfl) (by kernel_rfl)
          refine .inl ⟨wanted_yes (j := 22) (t := 118) (c := true) (by kernel_rfl) (by kernel_rfl) gd, ends_value' (c := .int .i64 YT) ?_⟩
          simp [execOp, Act.eval, d26]
        | 24, ho =>
          obtain rfl := Option.some.inj ho
          have d29 : bx.tmps.getD 29 undef = .int .i64 YT := hS.base 29 (by kernel_rfl)
          have gd : bx.tmps.getD 118 undef = .bool true := hS.dep 22 118 (by kernel_rfl) (by kernel_rfl)
          refine .inl ⟨wanted_yes (j := 22) (t := 118) (c := true) (by kernel_rfl) (by kernel_rfl) gd, ends_value' (c := .int .i64 YT) ?_⟩
          simp [execOp, Act.eval, d29]
        | 25, ho =>
          obtain rfl := Option.some.inj ho
          have d119 : bx.tmps.getD 119 undef = .int .i64 YT := hS.dep 23 119 (by kernel_rfl) (by kernel_rfl)
          have d120 : bx.tmps.getD 120 undef = .int .i64 YT := hS.dep 24 120 (by kernel_rfl) (by kernel_rfl)
          have gd : bx.tmps.getD 118 undef = .bool true := hS.dep 22 118 (by kernel_rfl) (by kernel_rfl)
          refine .inl ⟨wanted_yes (j := 22) (t := 118) (c := true) (by kernel_rfl) (by kernel_rfl) gd, ends_value' (c := .bool true) ?_⟩
          simp [Act.eval, d119, d120, go_sem]
        | 26, ho =>
          obtain rfl := Option.some.inj ho
          have d118 : bx.tmps.getD 118 undef = .bool true := hS.dep 22 118 (by kernel_rfl) (by kernel_rfl)
          have d121 : bx.tmps.getD 121 undef = .bool true := hS.dep 25 121 (by kernel_rfl) (by kernel_rfl)
          refine .inl ⟨rfl, ends_value' (c := .bool true) ?_⟩
          simp [Act.eval, d118, d121, go_sem]
        | 27, ho =>
          obtain rfl := Option.some.inj ho
          have d122 : bx.tmps.getD 122 undef = .bool true := hS.dep 26 122 (by kernel_rfl) (by kernel_rfl)
          refine .inl ⟨rfl, ends_value' (c := .bool true) ?_⟩
          simp [execOp, Act.eval, d122]
        | 28, ho =>
          obtain rfl := Option.some.inj ho
          have d27 : bx.tmps.getD 27 undef = .bool (decide (E = 0)) := hS.base 27 (by kernel_rfl)
          have gd : bx.tmps.getD 123 undef = .bool true := hS.dep 27 123 (by kernel_rfl) (by kernel_rfl)
          refine .inl ⟨wanted_yes (j := 27) (t := 123) (c := true) (by kernel_rfl) (by kernel_rfl) gd, ends_value' (c := .bool (decide (E = 0))) ?_⟩
          simp [execOp, Act.eval, d27]
        | 29, ho =>
          obtain rfl := Option.some.inj ho
          have d30 : bx.tmps.getD 30 undef = .int .i64 E := hS.base 30 (by kernel_rfl)
          have gd : bx.tmps.getD 123 undef = .bool true := hS.dep 27 123 (by kernel_rfl) (by kernel_rfl)
          refine .inl ⟨wanted_yes (j := 27) (t := 123) (c := true) (by kernel_rfl) (by kernel_rfl) gd, ends_value' (c := .int .i64 E) ?_⟩
          simp [execOp, Act.eval, d30]
        | 30, ho =>
          obtain rfl := Option.some.inj ho
          have d125 : bx.tmps.getD 125 undef = .int .i64 E := hS.dep 29 125 (by kernel_rfl) (by kernel_rfl)
          have gd : bx.tmps.getD 123 undef = .bool true := hS.dep 27 123 (by kernel_rfl) (by kernel_rfl)
          refine .inl ⟨wanted_yes (j := 27) (t := 123) (c := true) (by kernel_rfl) (by kernel_rfl) gd, ends_value' (c := .bool (decide (E = 0))) ?_⟩
          simp [Act.eval, d125, go_sem, hEb]
        | 31, ho =>
          obtain rfl := Option.some.inj ho
          have d124 : bx.tmps.getD 124 undef = .bool (decide (E = 0)) := hS.dep 28 124 (by kernel_rfl) (by kernel_rfl)
          have d126 : bx.tmps.getD 126 undef = .bool (decide (E = 0)) := hS.dep 30 126 (by kernel_rfl) (by kernel_rfl)
          have gd : bx.tmps.getD 123 undef = .bool true := hS.dep 27 123 (by kernel_rfl) (by kernel_rfl)
          refine .inl ⟨wanted_yes (j := 27) (t := 123) (c := true) (by kernel_rfl) (by kernel_rfl) gd, ends_value' (c := .bool true) ?_⟩
          simp [Act.eval, d124, d126, go_sem]
        | 32, ho =>
          obtain rfl := Option.some.inj ho
          have d123 : bx.tmps.getD 123 undef = .bool true := hS.dep 27 123 (by kernel_rfl) (by kernel_rfl)
          have d127 : bx.tmps.getD 127 undef = .bool true := hS.dep 31 127 (by kernel_rfl) (by kernel_rfl)
          refine .inl ⟨rfl, ends_value' (c := .bool true) ?_⟩
          simp [Act.eval, d123, d127, go_sem]
        | 33, ho =>
          obtain rfl := Option.some.inj ho
          have d128 : bx.tmps.getD 128 undef = .bool true := hS.dep 32 128 (by kernel_rfl) (by kernel_rfl)
          refine .inl ⟨rfl, ends_value' (c := .bool true) ?_⟩
          simp [execOp, Act.eval, d128]
        | n + 34, ho => exact absurd ho (by simp)
      case fin =>
        intro u hbel
        simp [putAll, dstAt, Act.put]
        go_wp2_with fail
        go_ret
        exact ⟨rfl, (unhide KB).drew.trans (hbel.mono (by omega))⟩
    | true =>
      have hd : (buildE a1 a2 == 0) = false := by
        have : ¬ buildE a1 a2 = 0 := fun h => hown ⟨rfl, h⟩
        simpa using this
      clear hown
      go_wp2_with fail
      refine (parse_any a0 _ hxs).mono ?_
      rintro e v1 ⟨rfl, hc1⟩
      have kb1 := (unhide HB).trans (hc1.mono hsz3)
      have ks1 : w.heap.size ≤ v1.heap.size := kb1.size
      have kn1 := (newHd v1 (parseH a0) 24).at_
      have kb2 := kb1.alloc ks1 (.cells #[.int .i64 (parseH a0).tos, .int .i64 (parseH a0).id, .int .i64 (parseH a0).flags, .int .i64 (parseH a0).frag, .int .i64 (parseH a0).ttl, .int .i64 (parseH a0).proto, .int .u32 (parseH a0).src, .int .u32 (parseH a0).dst, .string (parseH a0).opts] 24)
      have KN1 := hide kn1
      have KB := hide kb2
      clear hc1 kb1 kn1 kb2
      go_wp2_with fail
      refine (rparse_any a0 _ hxs).mono ?_
      rintro e v2 ⟨rfl, hc2⟩
      have ks2 : v1.heap.size + 1 ≤ v2.heap.size := by have := hc2.size; simp at this; omega
      have kn1 := (unhide KN1).on hc2 (by simp)
      have kb2 := (unhide KB).trans (hc2.mono (by simp; omega))
      have kn3 := kn1.on (alloc_on v2 (.cells #[.int .i64 (parseH a0).tos, .int .i64 (parseH a0).id, .int .i64 (parseH a0).flags, .int .i64 (parseH a0).frag, .int .i64 (parseH a0).ttl, .int .i64 (parseH a0).proto, .int .u32 (parseH a0).src, .int .u32 (parseH a0).dst, .string (parseH a0).opts] 31)) (by omega)
      have kn2 := (newHd v2 (parseH a0) 31).at_
      have kb3 := kb2.alloc (by omega) (.cells #[.int .i64 (parseH a0).tos, .int .i64 (parseH a0).id, .int .i64 (parseH a0).flags, .int .i64 (parseH a0).frag, .int .i64 (parseH a0).ttl, .int .i64 (parseH a0).proto, .int .u32 (parseH a0).src, .int .u32 (parseH a0).dst, .string (parseH a0).opts] 31)
      clear KN1 KB hc2 kn1 kb2
      have K1 := hide kn3
      have K2 := hide kn2
      have KB := hide kb3
      clear kn3 kn2 kb3
      go_wp2_with fail
      refine (size_of_any a0 _ hxs).mono ?_
      rintro e v3 ⟨rfl, hc3⟩
      have ks3 : v2.heap.size + 1 ≤ v3.heap.size := by have := hc3.size; simp at this; omega
      have kn1 := (unhide K1).on hc3 (by simp; omega)
      have kn2 := (unhide K2).on hc3 (by simp)
      have kb3 := (unhide KB).trans (hc3.mono (by simp; omega))
      clear K1 K2 KB hc3
      have K1 := hide kn1
      have K2 := hide kn2
      have KB := hide kb3
      clear kn1 kn2 kb3
      go_wp2_with fail
      refine (rsizes_any a0 _ hxs).mono ?_
      rintro e v4 ⟨rfl, he4⟩
      have he4 := he4.symm
      subst he4
      go_wp2_with fail
      clear hxs
      generalize parseH a0 = Y at *
      generalize parseS a0 = YS at *
      generalize parseE a0 = YE at *
      generalize sizeH a0 = YH at *
      generalize sizeT a0 = YT at *
      generalize measE a0 = E at *
      have hEb : (E == 0) = decide (E = 0) := by by_cases h : E = 0 <;> simp [h]
      refine wp_region_grow (by kernel_rfl) [.bool true, .bool true, .agg #[.int .i64 Y.tos, .int .i64 Y.id, .int .i64 Y.flags, .int .i64 Y.frag, .int .i64 Y.ttl, .int .i64 Y.proto, .int .u32 Y.src, .int .u32 Y.dst, .string Y.opts], .agg #[.int .i64 Y.tos, .int .i64 Y.id, .int .i64 Y.flags, .int .i64 Y.frag, .int .i64 Y.ttl, .int .i64 Y.proto, .int .u32 Y.src, .int .u32 Y.dst, .string Y.opts], .agg #[.int .i64 Y.tos, .int .i64 Y.id, .int .i64 Y.flags, .int .i64 Y.frag, .int .i64 Y.ttl, .int .i64 Y.proto, .int .u32 Y.src, .int .u32 Y.dst, .string Y.opts], .bool true, .bool true, .bool true, .string YS, .string YS, .bool true, .bool true, .bool true, .int .i64 YE, .int .i64 YE, .bool true, .bool true, .bool true, .int .i64 YH, .int .i64 YH, .bool true, .bool true, .bool true, .int .i64 YT, .int .i64 YT, .bool true, .bool true, .bool true, .bool (decide (E = 0)), .int .i64 E, .bool (decide (E = 0)), .bool true, .bool true, .bool true] (by kernel_rfl) ?op ?fin
      case op =>
        intro i o bx u ho hbel hS
        match i, ho with
        | 0, ho =>
          obtain rfl := Option.some.inj ho
          have d15 : bx.tmps.getD 15 undef = .bool true := hS.base 15 (by kernel_rfl)
          refine .inl ⟨rfl, ends_value' (c := .bool true) ?_⟩
          simp [execOp, Act.eval, d15]
        | 1, ho =>
          obtain rfl := Option.some.inj ho
          have d96 : bx.tmps.getD 96 undef = .bool true := hS.dep 0 96 (by kernel_rfl) (by kernel_rfl)
          refine .inl ⟨rfl, ends_value' (c := .bool true) ?_⟩
          simp [execOp, Act.eval, d96]
        | 2, ho =>
          obtain rfl := Option.some.inj ho
          have d19 : bx.tmps.getD 19 undef = .pointer (some ⟨v1.heap.size, 0, none⟩) := hS.base 19 (by kernel_rfl)
          have gd : bx.tmps.getD 97 undef = .bool true := hS.dep 1 97 (by kernel_rfl) (by kernel_rfl)
          have g := (unhide K1).on (hdrew hbel) (by omega)
          have g0 := g 0 (by decide)
          have g1 := g 1 (by decide)
          have g2 := g 2 (by decide)
          have g3 := g 3 (by decide)
          have g4 := g 4 (by decide)
          have g5 := g 5 (by decide)
          have g6 := g 6 (by decide)
          have g7 := g 7 (by decide)
          have g8 := g 8 (by decide)
          simp only [hcell] at g0 g1 g2 g3 g4 g5 g6 g7 g8
          refine .inl ⟨wanted_yes (j := 1) (t := 97) (c := true) (by kernel_rfl) (by kernel_rfl) gd, ends_value' (c := .agg #[.int .i64 Y.tos, .int .i64 Y.id, .int .i64 Y.flags, .int .i64 Y.frag, .int .i64 Y.ttl, .int .i64 Y.proto, .int .u32 Y.src, .int .u32 Y.dst, .string Y.opts]) ?_⟩
          simp [Act.eval, d19, go_sem, g0, g1, g2, g3, g4, g5, g6, g7, g8]
        | 3, ho =>
          obtain rfl := Option.some.inj ho
          have d98 : bx.tmps.getD 98 undef = .agg #[.int .i64 Y.tos, .int .i64 Y.id, .int .i64 Y.flags, .int .i64 Y.frag, .int .i64 Y.ttl, .int .i64 Y.proto, .int .u32 Y.src, .int .u32 Y.dst, .string Y.opts] := hS.dep 2 98 (by kernel_rfl) (by kernel_rfl)
          have gd : bx.tmps.getD 97 undef = .bool true := hS.dep 1 97 (by kernel_rfl) (by kernel_rfl)
          refine .inl ⟨wanted_yes (j := 1) (t := 97) (c := true) (by kernel_rfl) (by kernel_rfl) gd, ends_call' (c := .agg #[.int .i64 Y.tos, .int .i64 Y.id, .int .i64 Y.flags, .int .i64 Y.frag, .int .i64 Y.ttl, .int .i64 Y.proto, .int .u32 Y.src, .int .u32 Y.dst, .string Y.opts]) (f := 13) (args := #[Y.val]) ?_ (ref_any Y u)⟩
          simp [Act.eval, d98, go_sem]
        | 4, ho =>
          obtain rfl := Option.some.inj ho
          have d22 : bx.tmps.getD 22 undef = .pointer (some ⟨v2.heap.size, 0, none⟩) := hS.base 22 (by kernel_rfl)
          have gd : bx.tmps.getD 97 undef = .bool true := hS.dep 1 97 (by kernel_rfl) (by kernel_rfl)
          have g := (unhide K2).on (hdrew hbel) (by omega)
          have g0 := g 0 (by decide)
          have g1 := g 1 (by decide)
          have g2 := g 2 (by decide)
          have g3 := g 3 (by decide)
          have g4 := g 4 (by decide)
          have g5 := g 5 (by decide)
          have g6 := g 6 (by decide)
          have g7 := g 7 (by decide)
          have g8 := g 8 (by decide)
          simp only [hcell] at g0 g1 g2 g3 g4 g5 g6 g7 g8
          refine .inl ⟨wanted_yes (j := 1) (t := 97) (c := true) (by kernel_rfl) (by kernel_rfl) gd, ends_value' (c := .agg #[.int .i64 Y.tos, .int .i64 Y.id, .int .i64 Y.flags, .int .i64 Y.frag, .int .i64 Y.ttl, .int .i64 Y.proto, .int .u32 Y.src, .int .u32 Y.dst, .string Y.opts]) ?_⟩
          simp [Act.eval, d22, go_sem, g0, g1, g2, g3, g4, g5, g6, g7, g8]
        | 5, ho =>
          obtain rfl := Option.some.inj ho
          have d99 : bx.tmps.getD 99 undef = .agg #[.int .i64 Y.tos, .int .i64 Y.id, .int .i64 Y.flags, .int .i64 Y.frag, .int .i64 Y.ttl, .int .i64 Y.proto, .int .u32 Y.src, .int .u32 Y.dst, .string Y.opts] := hS.dep 3 99 (by kernel_rfl) (by kernel_rfl)
          have d100 : bx.tmps.getD 100 undef = .agg #[.int .i64 Y.tos, .int .i64 Y.id, .int .i64 Y.flags, .int .i64 Y.frag, .int .i64 Y.ttl, .int .i64 Y.proto, .int .u32 Y.src, .int .u32 Y.dst, .string Y.opts] := hS.dep 4 100 (by kernel_rfl) (by kernel_rfl)
          have gd : bx.tmps.getD 97 undef = .bool true := hS.dep 1 97 (by kernel_rfl) (by kernel_rfl)
          refine .inl ⟨wanted_yes (j := 1) (t := 97) (c := true) (by kernel_rfl) (by kernel_rfl) gd, ends_value' (c := .bool true) ?_⟩
          simp [Act.eval, d99, d100, go_sem]
        | 6, ho =>
          obtain rfl := Option.some.inj ho
          have d97 : bx.tmps.getD 97 undef = .bool true := hS.dep 1 97 (by kernel_rfl) (by kernel_rfl)
          have d101 : bx.tmps.getD 101 undef = .bool true := hS.dep 5 101 (by kernel_rfl) (by kernel_rfl)
          refine .inl ⟨rfl, ends_value' (c := .bool true) ?_⟩
          simp [Act.eval, d97, d101, go_sem]
        | 7, ho =>
          obtain rfl := Option.some.inj ho
          have d102 : bx.tmps.getD 102 undef = .bool true := hS.dep 6 102 (by kernel_rfl) (by kernel_rfl)
          refine .inl ⟨rfl, ends_value' (c := .bool true) ?_⟩
          simp [execOp, Act.eval, d102]
        | 8, ho =>
          obtain rfl := Option.some.inj ho
          have d20 : bx.tmps.getD 20 undef = .string YS := hS.base 20 (by kernel_rfl)
          have gd : bx.tmps.getD 103 undef = .bool true := hS.dep 7 103 (by kernel_rfl) (by kernel_rfl)
          refine .inl ⟨wanted_yes (j := 7) (t := 103) (c := true) (by kernel_rfl) (by kernel_rfl) gd, ends_value' (c := .string YS) ?_⟩
          simp [execOp, Act.eval, d20]
        | 9, ho =>
          obtain rfl := Option.some.inj ho
          have d23 : bx.tmps.getD 23 undef = .string YS := hS.base 23 (by kernel_rfl)
          have gd : bx.tmps.getD 103 undef = .bool true := hS.dep 7 103 (by kernel_rfl) (by kernel_rfl)
          refine .inl ⟨wanted_yes (j := 7) (t := 103) (c := true) (by kernel_rfl) (by kernel_rfl) gd, ends_value' (c := .string YS) ?_⟩
          simp [execOp, Act.eval, d23]
        | 10, ho =>
          obtain rfl := Option.some.inj ho
          have d104 : bx.tmps.getD 104 undef = .string YS := hS.dep 8 104 (by kernel_rfl) (by kernel_rfl)
          have d105 : bx.tmps.getD 105 undef = .string YS := hS.dep 9 105 (by kernel_rfl) (by kernel_rfl)
          have gd : bx.tmps.getD 103 undef = .bool true := hS.dep 7 103 (by kernel_rfl) (by kernel_rfl)
          refine .inl ⟨wanted_yes (j := 7) (t := 103) (c := true) (by kernel_rfl) (by kernel_rfl) gd, ends_value' (c := .bool true) ?_⟩
          simp [Act.eval, d104, d105, go_sem]
        | 11, ho =>
          obtain rfl := Option.some.inj ho
          have d103 : bx.tmps.getD 103 undef = .bool true := hS.dep 7 103 (by kernel_rfl) (by kernel_rfl)
          have d106 : bx.tmps.getD 106 undef = .bool true := hS.dep 10 106 (by kernel_rfl) (by kernel_rfl)
          refine .inl ⟨rfl, ends_value' (c := .bool true) ?_⟩
          simp [Act.eval, d103, d106, go_sem]
        | 12, ho =>
          obtain rfl := Option.some.inj ho
          have d107 : bx.tmps.getD 107 undef = .bool true := hS.dep 11 107 (by kernel_rfl) (by kernel_rfl)
          refine .inl ⟨rfl, ends_value' (c := .bool true) ?_⟩
          simp [execOp, Act.eval, d107]
        | 13, ho =>
          obtain rfl := Option.some.inj ho
          have d21 : bx.tmps.getD 21 undef = .int .i64 YE := hS.base 21 (by kernel_rfl)
          have gd : bx.tmps.getD 108 undef = .bool true := hS.dep 12 108 (by kernel_rfl) (by kernel_rfl)
          refine .inl ⟨wanted_yes (j := 12) (t := 108) (c := true) (by kernel_rfl) (by kernel_rfl) gd, ends_value' (c := .int .i64 YE) ?_⟩
          simp [execOp, Act.eval, d21]
        | 14, ho =>
          obtain rfl := Option.some.inj ho
          have d24 : bx.tmps.getD 24 undef = .int .i64 YE := hS.base 24 (by kernel_rfl)
          have gd : bx.tmps.getD 108 undef = .bool true := hS.dep 12 108 (by kernel_rfl) (by kernel_rfl)
          refine .inl ⟨wanted_yes (j := 12) (t := 108) (c := true) (by kernel_rfl) (by kernel_rfl) gd, ends_value' (c := .int .i64 YE) ?_⟩
          simp [execOp, Act.eval, d24]
        | 15, ho =>
          obtain rfl := Option.some.inj ho
          have d109 : bx.tmps.getD 109 undef = .int .i64 YE := hS.dep 13 109 (by kernel_rfl) (by kernel_rfl)
          have d110 : bx.tmps.getD 110 undef = .int .i64 YE := hS.dep 14 110 (by kernel_rfl) (by kernel_rfl)
          have gd : bx.tmps.getD 108 undef = .bool true := hS.dep 12 108 (by kernel_rfl) (by kernel_rfl)
          refine .inl ⟨wanted_yes (j := 12) (t := 108) (c := true) (by kernel_rfl) (by kernel_rfl) gd, ends_value' (c := .bool true) ?_⟩
          simp [Act.eval, d109, d110, go_sem]
        | 16, ho =>
          obtain rfl := Option.some.inj ho
          have d108 : bx.tmps.getD 108 undef = .bool true := hS.dep 12 108 (by kernel_rfl) (by kernel_rfl)
          have d111 : bx.tmps.getD 111 undef = .bool true := hS.dep 15 111 (by kernel_rfl) (by kernel_rfl)
          refine .inl ⟨rfl, ends_value' (c := .bool true) ?_⟩
          simp [Act.eval, d108, d111, go_sem]
        | 17, ho =>
          obtain rfl := Option.some.inj ho
          have d112 : bx.tmps.getD 112 undef = .bool true := hS.dep 16 112 (by kernel_rfl) (by kernel_rfl)
          refine .inl ⟨rfl, ends_value' (c := .bool true) ?_⟩
          simp [execOp, Act.eval, d112]
        | 18, ho =>
          obtain rfl := Option.some.inj ho
          have d25 : bx.tmps.getD 25 undef = .int .i64 YH := hS.base 25 (by kernel_rfl)
          have gd : bx.tmps.getD 113 undef = .bool true := hS.dep 17 113 (by kernel_rfl) (by kernel_rfl)
          refine .inl ⟨wanted_yes (j := 17) (t := 113) (c := true) (by kernel_rfl) (by kernel_rfl) gd, ends_value' (c := .int .i64 YH) ?_⟩
          simp [execOp, Act.eval, d25]
        | 19, ho =>
          obtain rfl := Option.some.inj ho
          have d28 : bx.tmps.getD 28 undef = .int .i64 YH := hS.base 28 (by kernel_rfl)
          have gd : bx.tmps.getD 113 undef = .bool true := hS.dep 17 113 (by kernel_rfl) (by kernel_rfl)
          refine .inl ⟨wanted_yes (j := 17) (t := 113) (c := true) (by kernel_rfl) (by kernel_rfl) gd, ends_value' (c := .int .i64 YH) ?_⟩
          simp [execOp, Act.eval, d28]
        | 20, ho =>
          obtain rfl := Option.some.inj ho
          have d114 : bx.tmps.getD 114 undef = .int .i64 YH := hS.dep 18 114 (by kernel_rfl) (by kernel_rfl)
          have d115 : bx.tmps.getD 115 undef = .int .i64 YH := hS.dep 19 115 (by kernel_rfl) (by kernel_rfl)
          have gd : bx.tmps.getD 113 undef = .bool true := hS.dep 17 113 (by kernel_rfl) (by kernel_rfl)
          refine .inl ⟨wanted_yes (j := 17) (t := 113) (c := true) (by kernel_rfl) (by kernel_rfl) gd, ends_value' (c := .bool true) ?_⟩
          simp [Act.eval, d114, d115, go_sem]
        | 21, ho =>
          obtain rfl := Option.some.inj ho
          have d113 : bx.tmps.getD 113 undef = .bool true := hS.dep 17 113 (by kernel_rfl) (by kernel_rfl)
          have d116 : bx.tmps.getD 116 undef = .bool true := hS.dep 20 116 (by kernel_rfl) (by kernel_rfl)
          refine .inl ⟨rfl, ends_value' (c := .bool true) ?_⟩
          simp [Act.eval, d113, d116, go_sem]
        | 22, ho =>
          obtain rfl := Option.some.inj ho
          have d117 : bx.tmps.getD 117 undef = .bool true := hS.dep 21 117 (by kernel_rfl) (by kernel_rfl)
          refine .inl ⟨rfl, ends_value' (c := .bool true) ?_⟩
          simp [execOp, Act.eval, d117]
        | 23, ho =>
          obtain rfl := Option.some.inj ho
          have d26 : bx.tmps.getD 26 undef = .int .i64 YT := hS.base 26 (by kernel_rfl)
          have gd : bx.tmps.getD 118 undef = .bool true := hS.dep 22 118 (by kernel_rfl) (by kernel_rfl)
          refine .inl ⟨wanted_yes (j := 22) (t := 118) (c := true) (by kernel_rfl) (by kernel_rfl) gd, ends_value' (c := .int .i64 YT) ?_⟩
          simp [execOp, Act.eval, d26]
        | 24, ho =>
          obtain rfl := Option.some.inj ho
          have d29 : bx.tmps.getD 29 undef = .int .i64 YT := hS.base 29 (by kernel_rfl)
          have gd : bx.tmps.getD 118 undef = .bool true := hS.dep 22 118 (by kernel_rfl) (by kernel_rfl)
          refine .inl ⟨wanted_yes (j := 22) (t := 118) (c := true) (by kernel_rfl) (by kernel_rfl) gd, ends_value' (c := .int .i64 YT) ?_⟩
          simp [execOp, Act.eval, d29]
        | 25, ho =>
          obtain rfl := Option.some.inj ho
          have d119 : bx.tmps.getD 119 undef = .int .i64 YT := hS.dep 23 119 (by kernel_rfl) (by kernel_rfl)
          have d120 : bx.tmps.getD 120 undef = .int .i64 YT := hS.dep 24 120 (by kernel_rfl) (by kernel_rfl)
          have gd : bx.tmps.getD 118 undef = .bool true := hS.dep 22 118 (by kernel_rfl) (by kernel_rfl)
          refine .inl ⟨wanted_yes (j := 22) (t := 118) (c := true) (by kernel_rfl) (by kernel_rfl) gd, ends_value' (c := .bool true) ?_⟩
          simp [Act.eval, d119, d120, go_sem]
        | 26, ho =>
          obtain rfl := Option.some.inj ho
          have d118 : bx.tmps.getD 118 undef = .bool true := hS.dep 22 118 (by kernel_rfl) (by kernel_rfl)
          have d121 : bx.tmps.getD 121 undef = .bool true := hS.dep 25 121 (by kernel_rfl) (by kernel_rfl)
          refine .inl ⟨rfl, ends_value' (c := .bool true) ?_⟩
          simp [Act.eval, d118, d121, go_sem]
        | 27, ho =>
          obtain rfl := Option.some.inj ho
          have d122 : bx.tmps.getD 122 undef = .bool true := hS.dep 26 122 (by kernel_rfl) (by kernel_rfl)
          refine .inl ⟨rfl, ends_value' (c := .bool true) ?_⟩
          simp [execOp, Act.eval, d122]
        | 28, ho =>
          obtain rfl := Option.some.inj ho
          have d27 : bx.tmps.getD 27 undef = .bool (decide (E = 0)) := hS.base 27 (by kernel_rfl)
          have gd : bx.tmps.getD 123 undef = .bool true := hS.dep 27 123 (by kernel_rfl) (by kernel_rfl)
          refine .inl ⟨wanted_yes (j := 27) (t := 123) (c := true) (by kernel_rfl) (by kernel_rfl) gd, ends_value' (c := .bool (decide (E = 0))) ?_⟩
          simp [execOp, Act.eval, d27]
        | 29, ho =>
          obtain rfl := Option.some.inj ho
          have d30 : bx.tmps.getD 30 undef = .int .i64 E := hS.base 30 (by kernel_rfl)
          have gd : bx.tmps.getD 123 undef = .bool true := hS.dep 27 123 (by kernel_rfl) (by kernel_rfl)
          refine .inl ⟨wanted_yes (j := 27) (t := 123) (c := true) (by kernel_rfl) (by kernel_rfl) gd, ends_value' (c := .int .i64 E) ?_⟩
          simp [execOp, Act.eval, d30]
        | 30, ho =>
          obtain rfl := Option.some.inj ho
          have d125 : bx.tmps.getD 125 undef = .int .i64 E := hS.dep 29 125 (by kernel_rfl) (by kernel_rfl)
          have gd : bx.tmps.getD 123 undef = .bool true := hS.dep 27 123 (by kernel_rfl) (by kernel_rfl)
          refine .inl ⟨wanted_yes (j := 27) (t := 123) (c := true) (by kernel_rfl) (by kernel_rfl) gd, ends_value' (c := .bool (decide (E = 0))) ?_⟩
          simp [Act.eval, d125, go_sem, hEb]
        | 31, ho =>
          obtain rfl := Option.some.inj ho
          have d124 : bx.tmps.getD 124 undef = .bool (decide (E = 0)) := hS.dep 28 124 (by kernel_rfl) (by kernel_rfl)
          have d126 : bx.tmps.getD 126 undef = .bool (decide (E = 0)) := hS.dep 30 126 (by kernel_rfl) (by kernel_rfl)
          have gd : bx.tmps.getD 123 undef = .bool true := hS.dep 27 123 (by kernel_rfl) (by kernel_rfl)
          refine .inl ⟨wanted_yes (j := 27) (t := 123) (c := true) (by kernel_rfl) (by kernel_rfl) gd, ends_value' (c := .bool true) ?_⟩
          simp [Act.eval, d124, d126, go_sem]
        | 32, ho =>
          obtain rfl := Option.some.inj ho
          have d123 : bx.tmps.getD 123 undef = .bool true := hS.dep 27 123 (by kernel_rfl) (by kernel_rfl)
          have d127 : bx.tmps.getD 127 undef = .bool true := hS.dep 31 127 (by kernel_rfl) (by kernel_rfl)
          refine .inl ⟨rfl, ends_value' (c := .bool true) ?_⟩
          simp [Act.eval, d123, d127, go_sem]
        | 33, ho =>
          obtain rfl := Option.some.inj ho
          have d128 : bx.tmps.getD 128 undef = .bool true := hS.dep 32 128 (by kernel_rfl) (by kernel_rfl)
          refine .inl ⟨rfl, ends_value' (c := .bool true) ?_⟩
          simp [execOp, Act.eval, d128]
        | n + 34, ho => exact absurd ho (by simp)
      case fin =>
        intro u hbel
        simp [putAll, dstAt, Act.put]
        go_wp2_with fail
        go_ret
        exact ⟨rfl, (unhide KB).drew.trans (hbel.mono (by omega))⟩
  case pos =>
    obtain ⟨rfl, he⟩ := hown
    obtain ⟨hB, hs⟩ := built_of w1 he
    rw [hs, he]
    have hbs := built_size (h := a1) a2
    have hl := hB.l
    have hbt : btotal a1 a2 = 20 + a1.opts.size + a2.size := rfl
    generalize built a1 a2 = t at *
    obtain ⟨n, hn⟩ : ∃ n : Nat, t.size = n := ⟨_, rfl⟩
    have hn0 : 20 ≤ n := by omega
    have hn1 : n ≤ 1500 := by omega
    obtain ⟨c, V, hcv, hVb, hVt⟩ := conv_bytes t w3
    rw [hn] at hcv
    have hbV := (unhide HB).trans (hVb.mono hsz3)
    have hgV : w3.heap.size < V.heap.size := by have := (hVt 0 (by rw [Oct.len_eq]; omega)).1; exact block_lt_of_cell this
    clear hVb HB hB hs hbt hl hbs he
    have hgw : w.heap.size ≤ w3.heap.size := hsz3
    have go : ∀ A : Int, 0 ≤ A → A ≤ 9223372036854775807 → True := fun _ _ _ => trivial
    by_cases hneg : a4 < 0
    · obtain ⟨A, hA⟩ : ∃ A : Int, -(a4 + 1) = A := ⟨_, rfl⟩
      have hA0 : 0 ≤ A := by omega
      have hA1 : A ≤ 9223372036854775807 := by omega
      have hd : decide (a4 < 0) = true := by simpa using hneg
      have hwA : -(a4 + 1) = A := hA
      go_wp2_with fail
      clear hcv hd
      generalize hg : w3.heap.size = g at *
      obtain ⟨Kn, hKn⟩ : ∃ Kn : Nat, (A % n).toNat = Kn := ⟨_, rfl⟩
      have hK0 : 0 ≤ A % n := Int.emod_nonneg _ (by omega)
      have hK1 : A % n < n := Int.emod_lt_of_pos _ (by omega)
      have hKlt : Kn < n := by omega
      have hrem : A.tmod n = A % n := Int.tmod_eq_emod_of_nonneg hA0
      have hnz : ¬ n = 0 := by omega
      have hon : ∀ {u : World}, Below V.heap.size V.drew u → Bts u g t.data.toList := fun {u} hb => hVt.on (hdrew hb)
      have hlt : Kn < t.data.toList.length := by rw [Oct.len_eq]; omega
      have hbts : ∀ {u : World}, Below V.heap.size V.drew u → u.cell? ⟨g, Kn, none⟩ = some (.int .u8 ((t.data.toList.getD Kn 0).toNat : Int)) := fun {u} hb => (hon hb Kn hlt).1
      have hbtf : ∀ {u : World}, Below V.heap.size V.drew u → u.frozen? ⟨g, Kn, none⟩ = false := fun {u} hb => (hon hb Kn hlt).2
      generalize hbK : ((t.data.toList.getD Kn 0).toNat : Int) = bK at *
      obtain ⟨X, hX⟩ : ∃ X : Int, bits .xor .u8 bK a5 = X := ⟨_, rfl⟩
      have hXb := bounds_u8 (wf_bits .xor .u8 bK a5)
      rw [hX] at hXb
      obtain ⟨hX0, hX1⟩ := hXb
      refine wp_region_grow_store (by kernel_rfl) [.slice (some ⟨g, 0, none⟩) n c, .int .i64 A, .slice (some ⟨g, 0, none⟩) n c, .int .i64 n, .int .i64 (A % n), .slice (some ⟨g, 0, none⟩) n c, .int .i64 A, .slice (some ⟨g, 0, none⟩) n c, .int .i64 n, .int .i64 (A % n), .pointer (some ⟨g, Kn, none⟩), .int .u8 bK, .int .u8 a5, .int .u8 X, .pointer (some ⟨g, Kn, none⟩), undef] 15 (fun v => v.setCell ⟨g, Kn, none⟩ (.int .u8 X)) (by kernel_rfl) (by decide) rfl ?op ?store ?fin
      case op =>
        intro i o bx u ho hne hbel hS
        match i, ho with
        | 0, ho =>
          obtain rfl := Option.some.inj ho
          have d18 : bx.tmps.getD 18 undef = .slice (some ⟨g, 0, none⟩) n c := hS.base 18 (by kernel_rfl)
          refine .inl ⟨rfl, ends_value (c := .slice (some ⟨g, 0, none⟩) n c) ?_⟩
          simp [execOp, Act.eval, d18]
        | 1, ho =>
          obtain rfl := Option.some.inj ho
          have d4 : bx.tmps.getD 4 undef = .int .i64 A := hS.base 4 (by kernel_rfl)
          refine .inl ⟨rfl, ends_value (c := .int .i64 A) ?_⟩
          simp [execOp, Act.eval, d4]
        | 2, ho =>
          obtain rfl := Option.some.inj ho
          have d18 : bx.tmps.getD 18 undef = .slice (some ⟨g, 0, none⟩) n c := hS.base 18 (by kernel_rfl)
          refine .inl ⟨rfl, ends_value (c := .slice (some ⟨g, 0, none⟩) n c) ?_⟩
          simp [execOp, Act.eval, d18]
        | 3, ho =>
          obtain rfl := Option.some.inj ho
          have d55 : bx.tmps.getD 55 undef = .slice (some ⟨g, 0, none⟩) n c := hS.dep 2 55 (by kernel_rfl) (by kernel_rfl)
          refine .inl ⟨rfl, ends_value (c := .int .i64 n) ?_⟩
          simp [Act.eval, d55, go_sem]
        | 4, ho =>
          obtain rfl := Option.some.inj ho
          have d54 : bx.tmps.getD 54 undef = .int .i64 A := hS.dep 1 54 (by kernel_rfl) (by kernel_rfl)
          have d56 : bx.tmps.getD 56 undef = .int .i64 n := hS.dep 3 56 (by kernel_rfl) (by kernel_rfl)
          refine .inl ⟨rfl, ends_value (c := .int .i64 (A % n)) ?_⟩
          simp [Act.eval, d54, d56, go_sem, hrem, hnz]
        | 5, ho =>
          obtain rfl := Option.some.inj ho
          have d18 : bx.tmps.getD 18 undef = .slice (some ⟨g, 0, none⟩) n c := hS.base 18 (by kernel_rfl)
          refine .inl ⟨rfl, ends_value (c := .slice (some ⟨g, 0, none⟩) n c) ?_⟩
          simp [execOp, Act.eval, d18]
        | 6, ho =>
          obtain rfl := Option.some.inj ho
          have d4 : bx.tmps.getD 4 undef = .int .i64 A := hS.base 4 (by kernel_rfl)
          refine .inl ⟨rfl, ends_value (c := .int .i64 A) ?_⟩
          simp [execOp, Act.eval, d4]
        | 7, ho =>
          obtain rfl := Option.some.inj ho
          have d18 : bx.tmps.getD 18 undef = .slice (some ⟨g, 0, none⟩) n c := hS.base 18 (by kernel_rfl)
          refine .inl ⟨rfl, ends_value (c := .slice (some ⟨g, 0, none⟩) n c) ?_⟩
          simp [execOp, Act.eval, d18]
        | 8, ho =>
          obtain rfl := Option.some.inj ho
          have d60 : bx.tmps.getD 60 undef = .slice (some ⟨g, 0, none⟩) n c := hS.dep 7 60 (by kernel_rfl) (by kernel_rfl)
          refine .inl ⟨rfl, ends_value (c := .int .i64 n) ?_⟩
          simp [Act.eval, d60, go_sem]
        | 9, ho =>
          obtain rfl := Option.some.inj ho
          have d59 : bx.tmps.getD 59 undef = .int .i64 A := hS.dep 6 59 (by kernel_rfl) (by kernel_rfl)
          have d61 : bx.tmps.getD 61 undef = .int .i64 n := hS.dep 8 61 (by kernel_rfl) (by kernel_rfl)
          refine .inl ⟨rfl, ends_value (c := .int .i64 (A % n)) ?_⟩
          simp [Act.eval, d59, d61, go_sem, hrem, hnz]
        | 10, ho =>
          obtain rfl := Option.some.inj ho
          have d58 : bx.tmps.getD 58 undef = .slice (some ⟨g, 0, none⟩) n c := hS.dep 5 58 (by kernel_rfl) (by kernel_rfl)
          have d62 : bx.tmps.getD 62 undef = .int .i64 (A % n) := hS.dep 9 62 (by kernel_rfl) (by kernel_rfl)
          refine .inl ⟨rfl, ends_value (c := .pointer (some ⟨g, Kn, none⟩)) ?_⟩
          simp [Act.eval, d58, d62, go_sem, hK0, hK1, hKn]
        | 11, ho =>
          obtain rfl := Option.some.inj ho
          have d63 : bx.tmps.getD 63 undef = .pointer (some ⟨g, Kn, none⟩) := hS.dep 10 63 (by kernel_rfl) (by kernel_rfl)
          have hl := (hbts (hbel (by kernel_rfl)))
          refine .inl ⟨rfl, ends_value (c := .int .u8 bK) ?_⟩
          simp [Act.eval, d63, go_sem, hl]
        | 12, ho =>
          obtain rfl := Option.some.inj ho
          have d5 : bx.tmps.getD 5 undef = .int .u8 a5 := hS.base 5 (by kernel_rfl)
          refine .inl ⟨rfl, ends_value (c := .int .u8 a5) ?_⟩
          simp [execOp, Act.eval, d5]
        | 13, ho =>
          obtain rfl := Option.some.inj ho
          have d64 : bx.tmps.getD 64 undef = .int .u8 bK := hS.dep 11 64 (by kernel_rfl) (by kernel_rfl)
          have d65 : bx.tmps.getD 65 undef = .int .u8 a5 := hS.dep 12 65 (by kernel_rfl) (by kernel_rfl)
          refine .inl ⟨rfl, ends_value (c := .int .u8 X) ?_⟩
          simp [Act.eval, d64, d65, go_sem, hX]
        | 14, ho =>
          obtain rfl := Option.some.inj ho
          have d53 : bx.tmps.getD 53 undef = .slice (some ⟨g, 0, none⟩) n c := hS.dep 0 53 (by kernel_rfl) (by kernel_rfl)
          have d57 : bx.tmps.getD 57 undef = .int .i64 (A % n) := hS.dep 4 57 (by kernel_rfl) (by kernel_rfl)
          refine .inl ⟨rfl, ends_value (c := .pointer (some ⟨g, Kn, none⟩)) ?_⟩
          simp [Act.eval, d53, d57, go_sem, hK0, hK1, hKn]
        | 15, _ => exact absurd rfl hne
        | n + 16, ho => exact absurd ho (by simp)
      case store =>
        intro o bx u ho hbel hS
        obtain rfl := Option.some.inj ho
        have d67 : bx.tmps.getD 67 undef = .pointer (some ⟨g, Kn, none⟩) := hS.dep 14 67 (by kernel_rfl) (by kernel_rfl)
        have d66 : bx.tmps.getD 66 undef = .int .u8 X := hS.dep 13 66 (by kernel_rfl) (by kernel_rfl)
        have hs1 := hbts hbel
        have hs2 := hbtf hbel
        refine ⟨rfl, ?_⟩
        simp [Act.eval, d67, d66, go_sem, hs1, hs2]
      case fin =>
        intro u hbel
        simp [putAll, dstAt, Act.put]
        have hB2 : Bts (u.setCell ⟨g, Kn, none⟩ (.int .u8 X)) g (t.data.toList.set Kn (UInt8.ofNat X.toNat)) := (hon hbel).set Kn (by rw [Oct.len_eq]; omega) X hX0 (by omega)
        have hbz : Below w.heap.size w (u.setCell ⟨g, Kn, none⟩ (.int .u8 X)) := (hbV.drew.trans (hbel.mono (by omega))).setCell (p := ⟨g, Kn, none⟩) (by simp; omega) _
        have hsz : w.heap.size ≤ (u.setCell ⟨g, Kn, none⟩ (.int .u8 X)).heap.size := hbz.size
        generalize u.setCell ⟨g, Kn, none⟩ (.int .u8 X) = Z at *
        have hlen : (t.data.toList.set Kn (UInt8.ofNat X.toNat)).length = n := by rw [List.length_set, Oct.len_eq]; exact hn
        generalize hL : t.data.toList.set Kn (UInt8.ofNat X.toNat) = L at *
        have htx := hB2.text c
        rw [hlen] at htx
        have hls : (ByteArray.mk L.toArray).size = n := by rw [Oct.mk_size, hlen]
        have ha1 := fun (wx : World) => run_string_add_sum (P := Try.prog) (w := wx) ⟨L.toArray⟩ a6 (by rw [hls]; omega)
        have hxs : (ByteArray.mk L.toArray ++ a6).size ≤ 281474976710656 := by rw [ByteArray.size_append, hls]; omega
        clear hB2 hL
        go_wp2_with fail
        generalize (ByteArray.mk L.toArray ++ a6) = x at *
        clear htx ha1 hls
        refine (parse_any x _ hxs).mono ?_
        rintro e v1 ⟨rfl, hc1⟩
        have kb1 := hbz.trans (hc1.mono (by omega))
        have ks1 : w.heap.size ≤ v1.heap.size := kb1.size
        have kn1 := (newHd v1 (parseH x) 24).at_
        have kb2 := kb1.alloc ks1 (.cells #[.int .i64 (parseH x).tos, .int .i64 (parseH x).id, .int .i64 (parseH x).flags, .int .i64 (parseH x).frag, .int .i64 (parseH x).ttl, .int .i64 (parseH x).proto, .int .u32 (parseH x).src, .int .u32 (parseH x).dst, .string (parseH x).opts] 24)
        have KN1 := hide kn1
        have KB := hide kb2
        clear hc1 kb1 kn1 kb2
        go_wp2_with fail
        refine (rparse_any x _ hxs).mono ?_
        rintro e v2 ⟨rfl, hc2⟩
        have ks2 : v1.heap.size + 1 ≤ v2.heap.size := by have := hc2.size; simp at this; omega
        have kn1 := (unhide KN1).on hc2 (by simp)
        have kb2 := (unhide KB).trans (hc2.mono (by simp; omega))
        have kn3 := kn1.on (alloc_on v2 (.cells #[.int .i64 (parseH x).tos, .int .i64 (parseH x).id, .int .i64 (parseH x).flags, .int .i64 (parseH x).frag, .int .i64 (parseH x).ttl, .int .i64 (parseH x).proto, .int .u32 (parseH x).src, .int .u32 (parseH x).dst, .string (parseH x).opts] 31)) (by omega)
        have kn2 := (newHd v2 (parseH x) 31).at_
        have kb3 := kb2.alloc (by omega) (.cells #[.int .i64 (parseH x).tos, .int .i64 (parseH x).id, .int .i64 (parseH x).flags, .int .i64 (parseH x).frag, .int .i64 (parseH x).ttl, .int .i64 (parseH x).proto, .int .u32 (parseH x).src, .int .u32 (parseH x).dst, .string (parseH x).opts] 31)
        clear KN1 KB hc2 kn1 kb2
        have K1 := hide kn3
        have K2 := hide kn2
        have KB := hide kb3
        clear kn3 kn2 kb3
        go_wp2_with fail
        refine (size_of_any x _ hxs).mono ?_
        rintro e v3 ⟨rfl, hc3⟩
        have ks3 : v2.heap.size + 1 ≤ v3.heap.size := by have := hc3.size; simp at this; omega
        have kn1 := (unhide K1).on hc3 (by simp; omega)
        have kn2 := (unhide K2).on hc3 (by simp)
        have kb3 := (unhide KB).trans (hc3.mono (by simp; omega))
        clear K1 K2 KB hc3
        have K1 := hide kn1
        have K2 := hide kn2
        have KB := hide kb3
        clear kn1 kn2 kb3
        go_wp2_with fail
        refine (rsizes_any x _ hxs).mono ?_
        rintro e v4 ⟨rfl, he4⟩
        have he4 := he4.symm
        subst he4
        go_wp2_with fail
        clear hxs
        generalize parseH x = Y at *
        generalize parseS x = YS at *
        generalize parseE x = YE at *
        generalize sizeH x = YH at *
        generalize sizeT x = YT at *
        generalize measE x = E at *
        have hEb : (E == 0) = decide (E = 0) := by by_cases h : E = 0 <;> simp [h]
        refine wp_region_grow (by kernel_rfl) [.bool true, .bool true, .agg #[.int .i64 Y.tos, .int .i64 Y.id, .int .i64 Y.flags, .int .i64 Y.frag, .int .i64 Y.ttl, .int .i64 Y.proto, .int .u32 Y.src, .int .u32 Y.dst, .string Y.opts], .agg #[.int .i64 Y.tos, .int .i64 Y.id, .int .i64 Y.flags, .int .i64 Y.frag, .int .i64 Y.ttl, .int .i64 Y.proto, .int .u32 Y.src, .int .u32 Y.dst, .string Y.opts], .agg #[.int .i64 Y.tos, .int .i64 Y.id, .int .i64 Y.flags, .int .i64 Y.frag, .int .i64 Y.ttl, .int .i64 Y.proto, .int .u32 Y.src, .int .u32 Y.dst, .string Y.opts], .bool true, .bool true, .bool true, .string YS, .string YS, .bool true, .bool true, .bool true, .int .i64 YE, .int .i64 YE, .bool true, .bool true, .bool true, .int .i64 YH, .int .i64 YH, .bool true, .bool true, .bool true, .int .i64 YT, .int .i64 YT, .bool true, .bool true, .bool true, .bool (decide (E = 0)), .int .i64 E, .bool (decide (E = 0)), .bool true, .bool true, .bool true] (by kernel_rfl) ?op ?fin
        case op =>
          intro i o bx u ho hbel hS
          match i, ho with
          | 0, ho =>
            obtain rfl := Option.some.inj ho
            have d15 : bx.tmps.getD 15 undef = .bool true := hS.base 15 (by kernel_rfl)
            refine .inl ⟨rfl, ends_value' (c := .bool true) ?_⟩
            simp [execOp, Act.eval, d15]
          | 1, ho =>
            obtain rfl := Option.some.inj ho
            have d96 : bx.tmps.getD 96 undef = .bool true := hS.dep 0 96 (by kernel_rfl) (by kernel_rfl)
            refine .inl ⟨rfl, ends_value' (c := .bool true) ?_⟩
            simp [execOp, Act.eval, d96]
          | 2, ho =>
            obtain rfl := Option.some.inj ho
            have d19 : bx.tmps.getD 19 undef = .pointer (some ⟨v1.heap.size, 0, none⟩) := hS.base 19 (by kernel_rfl)
            have gd : bx.tmps.getD 97 undef = .bool true := hS.dep 1 97 (by kernel_rfl) (by kernel_rfl)
            have g := (unhide K1).on (hdrew hbel) (by omega)
            have g0 := g 0 (by decide)
            have g1 := g 1 (by decide)
            have g2 := g 2 (by decide)
            have g3 := g 3 (by decide)
            have g4 := g 4 (by decide)
            have g5 := g 5 (by decide)
            have g6 := g 6 (by decide)
            have g7 := g 7 (by decide)
            have g8 := g 8 (by decide)
            simp only [hcell] at g0 g1 g2 g3 g4 g5 g6 g7 g8
            refine .inl ⟨wanted_yes (j := 1) (t := 97) (c := true) (by kernel_rfl) (by kernel_rfl) gd, ends_value' (c := .agg #[.int .i64 Y.tos, .int .i64 Y.id, .int .i64 Y.flags, .int .i64 Y.frag, .int .i64 Y.ttl, .int .i64 Y.proto, .int .u32 Y.src, .int .u32 Y.dst, .string Y.opts]) ?_⟩
            simp [Act.eval, d19, go_sem, g0, g1, g2, g3, g4, g5, g6, g7, g8]
          | 3, ho =>
            obtain rfl := Option.some.inj ho
            have d98 : bx.tmps.getD 98 undef = .agg #[.int .i64 Y.tos, .int .i64 Y.id, .int .i64 Y.flags, .int .i64 Y.frag, .int .i64 Y.ttl, .int .i64 Y.proto, .int .u32 Y.src, .int .u32 Y.dst, .string Y.opts] := hS.dep 2 98 (by kernel_rfl) (by kernel_rfl)
            have gd : bx.tmps.getD 97 undef = .bool true := hS.dep 1 97 (by kernel_rfl) (by kernel_rfl)
            refine .inl ⟨wanted_yes (j := 1) (t := 97) (c := true) (by kernel_rfl) (by kernel_rfl) gd, ends_call' (c := .agg #[.int .i64 Y.tos, .int .i64 Y.id, .int .i64 Y.flags, .int .i64 Y.frag, .int .i64 Y.ttl, .int .i64 Y.proto, .int .u32 Y.src, .int .u32 Y.dst, .string Y.opts]) (f := 13) (args := #[Y.val]) ?_ (ref_any Y u)⟩
            simp [Act.eval, d98, go_sem]
          | 4, ho =>
            obtain rfl := Option.some.inj ho
            have d22 : bx.tmps.getD 22 undef = .pointer (some ⟨v2.heap.size, 0, none⟩) := hS.base 22 (by kernel_rfl)
            have gd : bx.tmps.getD 97 undef = .bool true := hS.dep 1 97 (by kernel_rfl) (by kernel_rfl)
            have g := (unhide K2).on (hdrew hbel) (by omega)
            have g0 := g 0 (by decide)
            have g1 := g 1 (by decide)
            have g2 := g 2 (by decide)
            have g3 := g 3 (by decide)
            have g4 := g 4 (by decide)
            have g5 := g 5 (by decide)
            have g6 := g 6 (by decide)
            have g7 := g 7 (by decide)
            have g8 := g 8 (by decide)
            simp only [hcell] at g0 g1 g2 g3 g4 g5 g6 g7 g8
            refine .inl ⟨wanted_yes (j := 1) (t := 97) (c := true) (by kernel_rfl) (by kernel_rfl) gd, ends_value' (c := .agg #[.int .i64 Y.tos, .int .i64 Y.id, .int .i64 Y.flags, .int .i64 Y.frag, .int .i64 Y.ttl, .int .i64 Y.proto, .int .u32 Y.src, .int .u32 Y.dst, .string Y.opts]) ?_⟩
            simp [Act.eval, d22, go_sem, g0, g1, g2, g3, g4, g5, g6, g7, g8]
          | 5, ho =>
            obtain rfl := Option.some.inj ho
            have d99 : bx.tmps.getD 99 undef = .agg #[.int .i64 Y.tos, .int .i64 Y.id, .int .i64 Y.flags, .int .i64 Y.frag, .int .i64 Y.ttl, .int .i64 Y.proto, .int .u32 Y.src, .int .u32 Y.dst, .string Y.opts] := hS.dep 3 99 (by kernel_rfl) (by kernel_rfl)
            have d100 : bx.tmps.getD 100 undef = .agg #[.int .i64 Y.tos, .int .i64 Y.id, .int .i64 Y.flags, .int .i64 Y.frag, .int .i64 Y.ttl, .int .i64 Y.proto, .int .u32 Y.src, .int .u32 Y.dst, .string Y.opts] := hS.dep 4 100 (by kernel_rfl) (by kernel_rfl)
            have gd : bx.tmps.getD 97 undef = .bool true := hS.dep 1 97 (by kernel_rfl) (by kernel_rfl)
            refine .inl ⟨wanted_yes (j := 1) (t := 97) (c := true) (by kernel_rfl) (by kernel_rfl) gd, ends_value' (c := .bool true) ?_⟩
            simp [Act.eval, d99, d100, go_sem]
          | 6, ho =>
            obtain rfl := Option.some.inj ho
            have d97 : bx.tmps.getD 97 undef = .bool true := hS.dep 1 97 (by kernel_rfl) (by kernel_rfl)
            have d101 : bx.tmps.getD 101 undef = .bool true := hS.dep 5 101 (by kernel_rfl) (by kernel_rfl)
            refine .inl ⟨rfl, ends_value' (c := .bool true) ?_⟩
            simp [Act.eval, d97, d101, go_sem]
          | 7, ho =>
            obtain rfl := Option.some.inj ho
            have d102 : bx.tmps.getD 102 undef = .bool true := hS.dep 6 102 (by kernel_rfl) (by kernel_rfl)
            refine .inl ⟨rfl, ends_value' (c := .bool true) ?_⟩
            simp [execOp, Act.eval, d102]
          | 8, ho =>
            obtain rfl := Option.some.inj ho
            have d20 : bx.tmps.getD 20 undef = .string YS := hS.base 20 (by kernel_rfl)
            have gd : bx.tmps.getD 103 undef = .bool true := hS.dep 7 103 (by kernel_rfl) (by kernel_rfl)
            refine .inl ⟨wanted_yes (j := 7) (t := 103) (c := true) (by kernel_rfl) (by kernel_rfl) gd, ends_value' (c := .string YS) ?_⟩
            simp [execOp, Act.eval, d20]
          | 9, ho =>
            obtain rfl := Option.some.inj ho
            have d23 : bx.tmps.getD 23 undef = .string YS := hS.base 23 (by kernel_rfl)
            have gd : bx.tmps.getD 103 undef = .bool true := hS.dep 7 103 (by kernel_rfl) (by kernel_rfl)
            refine .inl ⟨wanted_yes (j := 7) (t := 103) (c := true) (by kernel_rfl) (by kernel_rfl) gd, ends_value' (c := .string YS) ?_⟩
            simp [execOp, Act.eval, d23]
          | 10, ho =>
            obtain rfl := Option.some.inj ho
            have d104 : bx.tmps.getD 104 undef = .string YS := hS.dep 8 104 (by kernel_rfl) (by kernel_rfl)
            have d105 : bx.tmps.getD 105 undef = .string YS := hS.dep 9 105 (by kernel_rfl) (by kernel_rfl)
            have gd : bx.tmps.getD 103 undef = .bool true := hS.dep 7 103 (by kernel_rfl) (by kernel_rfl)
            refine .inl ⟨wanted_yes (j := 7) (t := 103) (c := true) (by kernel_rfl) (by kernel_rfl) gd, ends_value' (c := .bool true) ?_⟩
            simp [Act.eval, d104, d105, go_sem]
          | 11, ho =>
            obtain rfl := Option.some.inj ho
            have d103 : bx.tmps.getD 103 undef = .bool true := hS.dep 7 103 (by kernel_rfl) (by kernel_rfl)
            have d106 : bx.tmps.getD 106 undef = .bool true := hS.dep 10 106 (by kernel_rfl) (by kernel_rfl)
            refine .inl ⟨rfl, ends_value' (c := .bool true) ?_⟩
            simp [Act.eval, d103, d106, go_sem]
          | 12, ho =>
            obtain rfl := Option.some.inj ho
            have d107 : bx.tmps.getD 107 undef = .bool true := hS.dep 11 107 (by kernel_rfl) (by kernel_rfl)
            refine .inl ⟨rfl, ends_value' (c := .bool true) ?_⟩
            simp [execOp, Act.eval, d107]
          | 13, ho =>
            obtain rfl := Option.some.inj ho
            have d21 : bx.tmps.getD 21 undef = .int .i64 YE := hS.base 21 (by kernel_rfl)
            have gd : bx.tmps.getD 108 undef = .bool true := hS.dep 12 108 (by kernel_rfl) (by kernel_rfl)
            refine .inl ⟨wanted_yes (j := 12) (t := 108) (c := true) (by kernel_rfl) (by kernel_rfl) gd, ends_value' (c := .int .i64 YE) ?_⟩
            simp [execOp, Act.eval, d21]
          | 14, ho =>
            obtain rfl := Option.some.inj ho
            have d24 : bx.tmps.getD 24 undef = .int .i64 YE := hS.base 24 (by kernel_rfl)
            have gd : bx.tmps.getD 108 undef = .bool true := hS.dep 12 108 (by kernel_rfl) (by kernel_rfl)
            refine .inl ⟨wanted_yes (j := 12) (t := 108) (c := true) (by kernel_rfl) (by kernel_rfl) gd, ends_value' (c := .int .i64 YE) ?_⟩
            simp [execOp, Act.eval, d24]
          | 15, ho =>
            obtain rfl := Option.some.inj ho
            have d109 : bx.tmps.getD 109 undef = .int .i64 YE := hS.dep 13 109 (by kernel_rfl) (by kernel_rfl)
            have d110 : bx.tmps.getD 110 undef = .int .i64 YE := hS.dep 14 110 (by kernel_rfl) (by kernel_rfl)
            have gd : bx.tmps.getD 108 undef = .bool true := hS.dep 12 108 (by kernel_rfl) (by kernel_rfl)
            refine .inl ⟨wanted_yes (j := 12) (t := 108) (c := true) (by kernel_rfl) (by kernel_rfl) gd, ends_value' (c := .bool true) ?_⟩
            simp [Act.eval, d109, d110, go_sem]
          | 16, ho =>
            obtain rfl := Option.some.inj ho
            have d108 : bx.tmps.getD 108 undef = .bool true := hS.dep 12 108 (by kernel_rfl) (by kernel_rfl)
            have d111 : bx.tmps.getD 111 undef = .bool true := hS.dep 15 111 (by kernel_rfl) (by kernel_rfl)
            refine .inl ⟨rfl, ends_value' (c := .bool true) ?_⟩
            simp [Act.eval, d108, d111, go_sem]
          | 17, ho =>
            obtain rfl := Option.some.inj ho
            have d112 : bx.tmps.getD 112 undef = .bool true := hS.dep 16 112 (by kernel_rfl) (by kernel_rfl)
            refine .inl ⟨rfl, ends_value' (c := .bool true) ?_⟩
            simp [execOp, Act.eval, d112]
          | 18, ho =>
            obtain rfl := Option.some.inj ho
            have d25 : bx.tmps.getD 25 undef = .int .i64 YH := hS.base 25 (by kernel_rfl)
            have gd : bx.tmps.getD 113 undef = .bool true := hS.dep 17 113 (by kernel_rfl) (by kernel_rfl)
            refine .inl ⟨wanted_yes (j := 17) (t := 113) (c := true) (by kernel_rfl) (by kernel_rfl) gd, ends_value' (c := .int .i64 YH) ?_⟩
            simp [execOp, Act.eval, d25]
          | 19, ho =>
            obtain rfl := Option.some.inj ho
            have d28 : bx.tmps.getD 28 undef = .int .i64 YH := hS.base 28 (by kernel_rfl)
            have gd : bx.tmps.getD 113 undef = .bool true := hS.dep 17 113 (by kernel_rfl) (by kernel_rfl)
            refine .inl ⟨wanted_yes (j := 17) (t := 113) (c := true) (by kernel_rfl) (by kernel_rfl) gd, ends_value' (c := .int .i64 YH) ?_⟩
            simp [execOp, Act.eval, d28]
          | 20, ho =>
            obtain rfl := Option.some.inj ho
            have d114 : bx.tmps.getD 114 undef = .int .i64 YH := hS.dep 18 114 (by kernel_rfl) (by kernel_rfl)
            have d115 : bx.tmps.getD 115 undef = .int .i64 YH := hS.dep 19 115 (by kernel_rfl) (by kernel_rfl)
            have gd : bx.tmps.getD 113 undef = .bool true := hS.dep 17 113 (by kernel_rfl) (by kernel_rfl)
            refine .inl ⟨wanted_yes (j := 17) (t := 113) (c := true) (by kernel_rfl) (by kernel_rfl) gd, ends_value' (c := .bool true) ?_⟩
            simp [Act.eval, d114, d115, go_sem]
          | 21, ho =>
            obtain rfl := Option.some.inj ho
            have d113 : bx.tmps.getD 113 undef = .bool true := hS.dep 17 113 (by kernel_rfl) (by kernel_rfl)
            have d116 : bx.tmps.getD 116 undef = .bool true := hS.dep 20 116 (by kernel_rfl) (by kernel_rfl)
            refine .inl ⟨rfl, ends_value' (c := .bool true) ?_⟩
            simp [Act.eval, d113, d116, go_sem]
          | 22, ho =>
            obtain rfl := Option.some.inj ho
            have d117 : bx.tmps.getD 117 undef = .bool true := hS.dep 21 117 (by kernel_rfl) (by kernel_rfl)
            refine .inl ⟨rfl, ends_value' (c := .bool true) ?_⟩
            simp [execOp, Act.eval, d117]
          | 23, ho =>
            obtain rfl := Option.some.inj ho
            have d26 : bx.tmps.getD 26 undef = .int .i64 YT := hS.base 26 (by kernel_rfl)
            have gd : bx.tmps.getD 118 undef = .bool true := hS.dep 22 118 (by kernel_rfl) (by kernel_rfl)
            refine .inl ⟨wanted_yes (j := 22) (t := 118) (c := true) (by kernel_rfl) (by kernel_rfl) gd, ends_value' (c := .int .i64 YT) ?_⟩
            simp [execOp, Act.eval, d26]
          | 24, ho =>
            obtain rfl := Option.some.inj ho
            have d29 : bx.tmps.getD 29 undef = .int .i64 YT := hS.base 29 (by kernel_rfl)
            have gd : bx.tmps.getD 118 undef = .bool true := hS.dep 22 118 (by kernel_rfl) (by kernel_rfl)
            refine .inl ⟨wanted_yes (j := 22) (t := 118) (c := true) (by kernel_rfl) (by kernel_rfl) gd, ends_value' (c := .int .i64 YT) ?_⟩
            simp [execOp, Act.eval, d29]
          | 25, ho =>
            obtain rfl := Option.some.inj ho
            have d119 : bx.tmps.getD 119 undef = .int .i64 YT := hS.dep 23 119 (by kernel_rfl) (by kernel_rfl)
            have d120 : bx.tmps.getD 120 undef = .int .i64 YT := hS.dep 24 120 (by kernel_rfl) (by kernel_rfl)
            have gd : bx.tmps.getD 118 undef = .bool true := hS.dep 22 118 (by kernel_rfl) (by kernel_rfl)
            refine .inl ⟨wanted_yes (j := 22) (t := 118) (c := true) (by kernel_rfl) (by kernel_rfl) gd, ends_value' (c := .bool true) ?_⟩
            simp [Act.eval, d119, d120, go_sem]
          | 26, ho =>
            obtain rfl := Option.some.inj ho
            have d118 : bx.tmps.getD 118 undef = .bool true := hS.dep 22 118 (by kernel_rfl) (by kernel_rfl)
            have d121 : bx.tmps.getD 121 undef = .bool true := hS.dep 25 121 (by kernel_rfl) (by kernel_rfl)
            refine .inl ⟨rfl, ends_value' (c := .bool true) ?_⟩
            simp [Act.eval, d118, d121, go_sem]
          | 27, ho =>
            obtain rfl := Option.some.inj ho
            have d122 : bx.tmps.getD 122 undef = .bool true := hS.dep 26 122 (by kernel_rfl) (by kernel_rfl)
            refine .inl ⟨rfl, ends_value' (c := .bool true) ?_⟩
            simp [execOp, Act.eval, d122]
          | 28, ho =>
            obtain rfl := Option.some.inj ho
            have d27 : bx.tmps.getD 27 undef = .bool (decide (E = 0)) := hS.base 27 (by kernel_rfl)
            have gd : bx.tmps.getD 123 undef = .bool true := hS.dep 27 123 (by kernel_rfl) (by kernel_rfl)
            refine .inl ⟨wanted_yes (j := 27) (t := 123) (c := true) (by kernel_rfl) (by kernel_rfl) gd, ends_value' (c := .bool (decide (E = 0))) ?_⟩
            simp [execOp, Act.eval, d27]
          | 29, ho =>
            obtain rfl := Option.some.inj ho
            have d30 : bx.tmps.getD 30 undef = .int .i64 E := hS.base 30 (by kernel_rfl)
            have gd : bx.tmps.getD 123 undef = .bool true := hS.dep 27 123 (by kernel_rfl) (by kernel_rfl)
            refine .inl ⟨wanted_yes (j := 27) (t := 123) (c := true) (by kernel_rfl) (by kernel_rfl) gd, ends_value' (c := .int .i64 E) ?_⟩
            simp [execOp, Act.eval, d30]
          | 30, ho =>
            obtain rfl := Option.some.inj ho
            have d125 : bx.tmps.getD 125 undef = .int .i64 E := hS.dep 29 125 (by kernel_rfl) (by kernel_rfl)
            have gd : bx.tmps.getD 123 undef = .bool true := hS.dep 27 123 (by kernel_rfl) (by kernel_rfl)
            refine .inl ⟨wanted_yes (j := 27) (t := 123) (c := true) (by kernel_rfl) (by kernel_rfl) gd, ends_value' (c := .bool (decide (E = 0))) ?_⟩
            simp [Act.eval, d125, go_sem, hEb]
          | 31, ho =>
            obtain rfl := Option.some.inj ho
            have d124 : bx.tmps.getD 124 undef = .bool (decide (E = 0)) := hS.dep 28 124 (by kernel_rfl) (by kernel_rfl)
            have d126 : bx.tmps.getD 126 undef = .bool (decide (E = 0)) := hS.dep 30 126 (by kernel_rfl) (by kernel_rfl)
            have gd : bx.tmps.getD 123 undef = .bool true := hS.dep 27 123 (by kernel_rfl) (by kernel_rfl)
            refine .inl ⟨wanted_yes (j := 27) (t := 123) (c := true) (by kernel_rfl) (by kernel_rfl) gd, ends_value' (c := .bool true) ?_⟩
            simp [Act.eval, d124, d126, go_sem]
          | 32, ho =>
            obtain rfl := Option.some.inj ho
            have d123 : bx.tmps.getD 123 undef = .bool true := hS.dep 27 123 (by kernel_rfl) (by kernel_rfl)
            have d127 : bx.tmps.getD 127 undef = .bool true := hS.dep 31 127 (by kernel_rfl) (by kernel_rfl)
            refine .inl ⟨rfl, ends_value' (c := .bool true) ?_⟩
            simp [Act.eval, d123, d127, go_sem]
          | 33, ho =>
            obtain rfl := Option.some.inj ho
            have d128 : bx.tmps.getD 128 undef = .bool true := hS.dep 32 128 (by kernel_rfl) (by kernel_rfl)
            refine .inl ⟨rfl, ends_value' (c := .bool true) ?_⟩
            simp [execOp, Act.eval, d128]
          | n + 34, ho => exact absurd ho (by simp)
        case fin =>
          intro u hbel
          simp [putAll, dstAt, Act.put]
          go_wp2_with fail
          go_ret
          exact ⟨rfl, (unhide KB).drew.trans (hbel.mono (by omega))⟩
    · obtain ⟨A, hA⟩ : ∃ A : Int, a4 = A := ⟨_, rfl⟩
      subst hA
      have hA0 : 0 ≤ a4 := by omega
      have hd : decide (a4 < 0) = false := by simpa using hneg
      go_wp2_with fail
      generalize a4 = A at *
      clear hcv hd
      generalize hg : w3.heap.size = g at *
      obtain ⟨Kn, hKn⟩ : ∃ Kn : Nat, (A % n).toNat = Kn := ⟨_, rfl⟩
      have hK0 : 0 ≤ A % n := Int.emod_nonneg _ (by omega)
      have hK1 : A % n < n := Int.emod_lt_of_pos _ (by omega)
      have hKlt : Kn < n := by omega
      have hrem : A.tmod n = A % n := Int.tmod_eq_emod_of_nonneg hA0
      have hnz : ¬ n = 0 := by omega
      have hon : ∀ {u : World}, Below V.heap.size V.drew u → Bts u g t.data.toList := fun {u} hb => hVt.on (hdrew hb)
      have hlt : Kn < t.data.toList.length := by rw [Oct.len_eq]; omega
      have hbts : ∀ {u : World}, Below V.heap.size V.drew u → u.cell? ⟨g, Kn, none⟩ = some (.int .u8 ((t.data.toList.getD Kn 0).toNat : Int)) := fun {u} hb => (hon hb Kn hlt).1
      have hbtf : ∀ {u : World}, Below V.heap.size V.drew u → u.frozen? ⟨g, Kn, none⟩ = false := fun {u} hb => (hon hb Kn hlt).2
      generalize hbK : ((t.data.toList.getD Kn 0).toNat : Int) = bK at *
      obtain ⟨X, hX⟩ : ∃ X : Int, bits .xor .u8 bK a5 = X := ⟨_, rfl⟩
      have hXb := bounds_u8 (wf_bits .xor .u8 bK a5)
      rw [hX] at hXb
      obtain ⟨hX0, hX1⟩ := hXb
      refine wp_region_grow_store (by kernel_rfl) [.slice (some ⟨g, 0, none⟩) n c, .int .i64 A, .slice (some ⟨g, 0, none⟩) n c, .int .i64 n, .int .i64 (A % n), .slice (some ⟨g, 0, none⟩) n c, .int .i64 A, .slice (some ⟨g, 0, none⟩) n c, .int .i64 n, .int .i64 (A % n), .pointer (some ⟨g, Kn, none⟩), .int .u8 bK, .int .u8 a5, .int .u8 X, .pointer (some ⟨g, Kn, none⟩), undef] 15 (fun v => v.setCell ⟨g, Kn, none⟩ (.int .u8 X)) (by kernel_rfl) (by decide) rfl ?op ?store ?fin
      case op =>
        intro i o bx u ho hne hbel hS
        match i, ho with
        | 0, ho =>
          obtain rfl := Option.some.inj ho
          have d18 : bx.tmps.getD 18 undef = .slice (some ⟨g, 0, none⟩) n c := hS.base 18 (by kernel_rfl)
          refine .inl ⟨rfl, ends_value (c := .slice (some ⟨g, 0, none⟩) n c) ?_⟩
          simp [execOp, Act.eval, d18]
        | 1, ho =>
          obtain rfl := Option.some.inj ho
          have d4 : bx.tmps.getD 4 undef = .int .i64 A := hS.base 4 (by kernel_rfl)
          refine .inl ⟨rfl, ends_value (c := .int .i64 A) ?_⟩
          simp [execOp, Act.eval, d4]
        | 2, ho =>
          obtain rfl := Option.some.inj ho
          have d18 : bx.tmps.getD 18 undef = .slice (some ⟨g, 0, none⟩) n c := hS.base 18 (by kernel_rfl)
          refine .inl ⟨rfl, ends_value (c := .slice (some ⟨g, 0, none⟩) n c) ?_⟩
          simp [execOp, Act.eval, d18]
        | 3, ho =>
          obtain rfl := Option.some.inj ho
          have d55 : bx.tmps.getD 55 undef = .slice (some ⟨g, 0, none⟩) n c := hS.dep 2 55 (by kernel_rfl) (by kernel_rfl)
          refine .inl ⟨rfl, ends_value (c := .int .i64 n) ?_⟩
          simp [Act.eval, d55, go_sem]
        | 4, ho =>
          obtain rfl := Option.some.inj ho
          have d54 : bx.tmps.getD 54 undef = .int .i64 A := hS.dep 1 54 (by kernel_rfl) (by kernel_rfl)
          have d56 : bx.tmps.getD 56 undef = .int .i64 n := hS.dep 3 56 (by kernel_rfl) (by kernel_rfl)
          refine .inl ⟨rfl, ends_value (c := .int .i64 (A % n)) ?_⟩
          simp [Act.eval, d54, d56, go_sem, hrem, hnz]
        | 5, ho =>
          obtain rfl := Option.some.inj ho
          have d18 : bx.tmps.getD 18 undef = .slice (some ⟨g, 0, none⟩) n c := hS.base 18 (by kernel_rfl)
          refine .inl ⟨rfl, ends_value (c := .slice (some ⟨g, 0, none⟩) n c) ?_⟩
          simp [execOp, Act.eval, d18]
        | 6, ho =>
          obtain rfl := Option.some.inj ho
          have d4 : bx.tmps.getD 4 undef = .int .i64 A := hS.base 4 (by kernel_rfl)
          refine .inl ⟨rfl, ends_value (c := .int .i64 A) ?_⟩
          simp [execOp, Act.eval, d4]
        | 7, ho =>
          obtain rfl := Option.some.inj ho
          have d18 : bx.tmps.getD 18 undef = .slice (some ⟨g, 0, none⟩) n c := hS.base 18 (by kernel_rfl)
          refine .inl ⟨rfl, ends_value (c := .slice (some ⟨g, 0, none⟩) n c) ?_⟩
          simp [execOp, Act.eval, d18]
        | 8, ho =>
          obtain rfl := Option.some.inj ho
          have d60 : bx.tmps.getD 60 undef = .slice (some ⟨g, 0, none⟩) n c := hS.dep 7 60 (by kernel_rfl) (by kernel_rfl)
          refine .inl ⟨rfl, ends_value (c := .int .i64 n) ?_⟩
          simp [Act.eval, d60, go_sem]
        | 9, ho =>
          obtain rfl := Option.some.inj ho
          have d59 : bx.tmps.getD 59 undef = .int .i64 A := hS.dep 6 59 (by kernel_rfl) (by kernel_rfl)
          have d61 : bx.tmps.getD 61 undef = .int .i64 n := hS.dep 8 61 (by kernel_rfl) (by kernel_rfl)
          refine .inl ⟨rfl, ends_value (c := .int .i64 (A % n)) ?_⟩
          simp [Act.eval, d59, d61, go_sem, hrem, hnz]
        | 10, ho =>
          obtain rfl := Option.some.inj ho
          have d58 : bx.tmps.getD 58 undef = .slice (some ⟨g, 0, none⟩) n c := hS.dep 5 58 (by kernel_rfl) (by kernel_rfl)
          have d62 : bx.tmps.getD 62 undef = .int .i64 (A % n) := hS.dep 9 62 (by kernel_rfl) (by kernel_rfl)
          refine .inl ⟨rfl, ends_value (c := .pointer (some ⟨g, Kn, none⟩)) ?_⟩
          simp [Act.eval, d58, d62, go_sem, hK0, hK1, hKn]
        | 11, ho =>
          obtain rfl := Option.some.inj ho
          have d63 : bx.tmps.getD 63 undef = .pointer (some ⟨g, Kn, none⟩) := hS.dep 10 63 (by kernel_rfl) (by kernel_rfl)
          have hl := (hbts (hbel (by kernel_rfl)))
          refine .inl ⟨rfl, ends_value (c := .int .u8 bK) ?_⟩
          simp [Act.eval, d63, go_sem, hl]
        | 12, ho =>
          obtain rfl := Option.some.inj ho
          have d5 : bx.tmps.getD 5 undef = .int .u8 a5 := hS.base 5 (by kernel_rfl)
          refine .inl ⟨rfl, ends_value (c := .int .u8 a5) ?_⟩
          simp [execOp, Act.eval, d5]
        | 13, ho =>
          obtain rfl := Option.some.inj ho
          have d64 : bx.tmps.getD 64 undef = .int .u8 bK := hS.dep 11 64 (by kernel_rfl) (by kernel_rfl)
          have d65 : bx.tmps.getD 65 undef = .int .u8 a5 := hS.dep 12 65 (by kernel_rfl) (by kernel_rfl)
          refine .inl ⟨rfl, ends_value (c := .int .u8 X) ?_⟩
          simp [Act.eval, d64, d65, go_sem, hX]
        | 14, ho =>
          obtain rfl := Option.some.inj ho
          have d53 : bx.tmps.getD 53 undef = .slice (some ⟨g, 0, none⟩) n c := hS.dep 0 53 (by kernel_rfl) (by kernel_rfl)
          have d57 : bx.tmps.getD 57 undef = .int .i64 (A % n) := hS.dep 4 57 (by kernel_rfl) (by kernel_rfl)
          refine .inl ⟨rfl, ends_value (c := .pointer (some ⟨g, Kn, none⟩)) ?_⟩
          simp [Act.eval, d53, d57, go_sem, hK0, hK1, hKn]
        | 15, _ => exact absurd rfl hne
        | n + 16, ho => exact absurd ho (by simp)
      case store =>
        intro o bx u ho hbel hS
        obtain rfl := Option.some.inj ho
        have d67 : bx.tmps.getD 67 undef = .pointer (some ⟨g, Kn, none⟩) := hS.dep 14 67 (by kernel_rfl) (by kernel_rfl)
        have d66 : bx.tmps.getD 66 undef = .int .u8 X := hS.dep 13 66 (by kernel_rfl) (by kernel_rfl)
        have hs1 := hbts hbel
        have hs2 := hbtf hbel
        refine ⟨rfl, ?_⟩
        simp [Act.eval, d67, d66, go_sem, hs1, hs2]
      case fin =>
        intro u hbel
        simp [putAll, dstAt, Act.put]
        have hB2 : Bts (u.setCell ⟨g, Kn, none⟩ (.int .u8 X)) g (t.data.toList.set Kn (UInt8.ofNat X.toNat)) := (hon hbel).set Kn (by rw [Oct.len_eq]; omega) X hX0 (by omega)
        have hbz : Below w.heap.size w (u.setCell ⟨g, Kn, none⟩ (.int .u8 X)) := (hbV.drew.trans (hbel.mono (by omega))).setCell (p := ⟨g, Kn, none⟩) (by simp; omega) _
        have hsz : w.heap.size ≤ (u.setCell ⟨g, Kn, none⟩ (.int .u8 X)).heap.size := hbz.size
        generalize u.setCell ⟨g, Kn, none⟩ (.int .u8 X) = Z at *
        have hlen : (t.data.toList.set Kn (UInt8.ofNat X.toNat)).length = n := by rw [List.length_set, Oct.len_eq]; exact hn
        generalize hL : t.data.toList.set Kn (UInt8.ofNat X.toNat) = L at *
        have htx := hB2.text c
        rw [hlen] at htx
        have hls : (ByteArray.mk L.toArray).size = n := by rw [Oct.mk_size, hlen]
        have ha1 := fun (wx : World) => run_string_add_sum (P := Try.prog) (w := wx) ⟨L.toArray⟩ a6 (by rw [hls]; omega)
        have hxs : (ByteArray.mk L.toArray ++ a6).size ≤ 281474976710656 := by rw [ByteArray.size_append, hls]; omega
        clear hB2 hL
        go_wp2_with fail
        generalize (ByteArray.mk L.toArray ++ a6) = x at *
        clear htx ha1 hls
        refine (parse_any x _ hxs).mono ?_
        rintro e v1 ⟨rfl, hc1⟩
        have kb1 := hbz.trans (hc1.mono (by omega))
        have ks1 : w.heap.size ≤ v1.heap.size := kb1.size
        have kn1 := (newHd v1 (parseH x) 24).at_
        have kb2 := kb1.alloc ks1 (.cells #[.int .i64 (parseH x).tos, .int .i64 (parseH x).id, .int .i64 (parseH x).flags, .int .i64 (parseH x).frag, .int .i64 (parseH x).ttl, .int .i64 (parseH x).proto, .int .u32 (parseH x).src, .int .u32 (parseH x).dst, .string (parseH x).opts] 24)
        have KN1 := hide kn1
        have KB := hide kb2
        clear hc1 kb1 kn1 kb2
        go_wp2_with fail
        refine (rparse_any x _ hxs).mono ?_
        rintro e v2 ⟨rfl, hc2⟩
        have ks2 : v1.heap.size + 1 ≤ v2.heap.size := by have := hc2.size; simp at this; omega
        have kn1 := (unhide KN1).on hc2 (by simp)
        have kb2 := (unhide KB).trans (hc2.mono (by simp; omega))
        have kn3 := kn1.on (alloc_on v2 (.cells #[.int .i64 (parseH x).tos, .int .i64 (parseH x).id, .int .i64 (parseH x).flags, .int .i64 (parseH x).frag, .int .i64 (parseH x).ttl, .int .i64 (parseH x).proto, .int .u32 (parseH x).src, .int .u32 (parseH x).dst, .string (parseH x).opts] 31)) (by omega)
        have kn2 := (newHd v2 (parseH x) 31).at_
        have kb3 := kb2.alloc (by omega) (.cells #[.int .i64 (parseH x).tos, .int .i64 (parseH x).id, .int .i64 (parseH x).flags, .int .i64 (parseH x).frag, .int .i64 (parseH x).ttl, .int .i64 (parseH x).proto, .int .u32 (parseH x).src, .int .u32 (parseH x).dst, .string (parseH x).opts] 31)
        clear KN1 KB hc2 kn1 kb2
        have K1 := hide kn3
        have K2 := hide kn2
        have KB := hide kb3
        clear kn3 kn2 kb3
        go_wp2_with fail
        refine (size_of_any x _ hxs).mono ?_
        rintro e v3 ⟨rfl, hc3⟩
        have ks3 : v2.heap.size + 1 ≤ v3.heap.size := by have := hc3.size; simp at this; omega
        have kn1 := (unhide K1).on hc3 (by simp; omega)
        have kn2 := (unhide K2).on hc3 (by simp)
        have kb3 := (unhide KB).trans (hc3.mono (by simp; omega))
        clear K1 K2 KB hc3
        have K1 := hide kn1
        have K2 := hide kn2
        have KB := hide kb3
        clear kn1 kn2 kb3
        go_wp2_with fail
        refine (rsizes_any x _ hxs).mono ?_
        rintro e v4 ⟨rfl, he4⟩
        have he4 := he4.symm
        subst he4
        go_wp2_with fail
        clear hxs
        generalize parseH x = Y at *
        generalize parseS x = YS at *
        generalize parseE x = YE at *
        generalize sizeH x = YH at *
        generalize sizeT x = YT at *
        generalize measE x = E at *
        have hEb : (E == 0) = decide (E = 0) := by by_cases h : E = 0 <;> simp [h]
        refine wp_region_grow (by kernel_rfl) [.bool true, .bool true, .agg #[.int .i64 Y.tos, .int .i64 Y.id, .int .i64 Y.flags, .int .i64 Y.frag, .int .i64 Y.ttl, .int .i64 Y.proto, .int .u32 Y.src, .int .u32 Y.dst, .string Y.opts], .agg #[.int .i64 Y.tos, .int .i64 Y.id, .int .i64 Y.flags, .int .i64 Y.frag, .int .i64 Y.ttl, .int .i64 Y.proto, .int .u32 Y.src, .int .u32 Y.dst, .string Y.opts], .agg #[.int .i64 Y.tos, .int .i64 Y.id, .int .i64 Y.flags, .int .i64 Y.frag, .int .i64 Y.ttl, .int .i64 Y.proto, .int .u32 Y.src, .int .u32 Y.dst, .string Y.opts], .bool true, .bool true, .bool true, .string YS, .string YS, .bool true, .bool true, .bool true, .int .i64 YE, .int .i64 YE, .bool true, .bool true, .bool true, .int .i64 YH, .int .i64 YH, .bool true, .bool true, .bool true, .int .i64 YT, .int .i64 YT, .bool true, .bool true, .bool true, .bool (decide (E = 0)), .int .i64 E, .bool (decide (E = 0)), .bool true, .bool true, .bool true] (by kernel_rfl) ?op ?fin
        case op =>
          intro i o bx u ho hbel hS
          match i, ho with
          | 0, ho =>
            obtain rfl := Option.some.inj ho
            have d15 : bx.tmps.getD 15 undef = .bool true := hS.base 15 (by kernel_rfl)
            refine .inl ⟨rfl, ends_value' (c := .bool true) ?_⟩
            simp [execOp, Act.eval, d15]
          | 1, ho =>
            obtain rfl := Option.some.inj ho
            have d96 : bx.tmps.getD 96 undef = .bool true := hS.dep 0 96 (by kernel_rfl) (by kernel_rfl)
            refine .inl ⟨rfl, ends_value' (c := .bool true) ?_⟩
            simp [execOp, Act.eval, d96]
          | 2, ho =>
            obtain rfl := Option.some.inj ho
            have d19 : bx.tmps.getD 19 undef = .pointer (some ⟨v1.heap.size, 0, none⟩) := hS.base 19 (by kernel_rfl)
            have gd : bx.tmps.getD 97 undef = .bool true := hS.dep 1 97 (by kernel_rfl) (by kernel_rfl)
            have g := (unhide K1).on (hdrew hbel) (by omega)
            have g0 := g 0 (by decide)
            have g1 := g 1 (by decide)
            have g2 := g 2 (by decide)
            have g3 := g 3 (by decide)
            have g4 := g 4 (by decide)
            have g5 := g 5 (by decide)
            have g6 := g 6 (by decide)
            have g7 := g 7 (by decide)
            have g8 := g 8 (by decide)
            simp only [hcell] at g0 g1 g2 g3 g4 g5 g6 g7 g8
            refine .inl ⟨wanted_yes (j := 1) (t := 97) (c := true) (by kernel_rfl) (by kernel_rfl) gd, ends_value' (c := .agg #[.int .i64 Y.tos, .int .i64 Y.id, .int .i64 Y.flags, .int .i64 Y.frag, .int .i64 Y.ttl, .int .i64 Y.proto, .int .u32 Y.src, .int .u32 Y.dst, .string Y.opts]) ?_⟩
            simp [Act.eval, d19, go_sem, g0, g1, g2, g3, g4, g5, g6, g7, g8]
          | 3, ho =>
            obtain rfl := Option.some.inj ho
            have d98 : bx.tmps.getD 98 undef = .agg #[.int .i64 Y.tos, .int .i64 Y.id, .int .i64 Y.flags, .int .i64 Y.frag, .int .i64 Y.ttl, .int .i64 Y.proto, .int .u32 Y.src, .int .u32 Y.dst, .string Y.opts] := hS.dep 2 98 (by kernel_rfl) (by kernel_rfl)
            have gd : bx.tmps.getD 97 undef = .bool true := hS.dep 1 97 (by kernel_rfl) (by kernel_rfl)
            refine .inl ⟨wanted_yes (j := 1) (t := 97) (c := true) (by kernel_rfl) (by kernel_rfl) gd, ends_call' (c := .agg #[.int .i64 Y.tos, .int .i64 Y.id, .int .i64 Y.flags, .int .i64 Y.frag, .int .i64 Y.ttl, .int .i64 Y.proto, .int .u32 Y.src, .int .u32 Y.dst, .string Y.opts]) (f := 13) (args := #[Y.val]) ?_ (ref_any Y u)⟩
            simp [Act.eval, d98, go_sem]
          | 4, ho =>
            obtain rfl := Option.some.inj ho
            have d22 : bx.tmps.getD 22 undef = .pointer (some ⟨v2.heap.size, 0, none⟩) := hS.base 22 (by kernel_rfl)
            have gd : bx.tmps.getD 97 undef = .bool true := hS.dep 1 97 (by kernel_rfl) (by kernel_rfl)
            have g := (unhide K2).on (hdrew hbel) (by omega)
            have g0 := g 0 (by decide)
            have g1 := g 1 (by decide)
            have g2 := g 2 (by decide)
            have g3 := g 3 (by decide)
            have g4 := g 4 (by decide)
            have g5 := g 5 (by decide)
            have g6 := g 6 (by decide)
            have g7 := g 7 (by decide)
            have g8 := g 8 (by decide)
            simp only [hcell] at g0 g1 g2 g3 g4 g5 g6 g7 g8
            refine .inl ⟨wanted_yes (j := 1) (t := 97) (c := true) (by kernel_rfl) (by kernel_rfl) gd, ends_value' (c := .agg #[.int .i64 Y.tos, .int .i64 Y.id, .int .i64 Y.flags, .int .i64 Y.frag, .int .i64 Y.ttl, .int .i64 Y.proto, .int .u32 Y.src, .int .u32 Y.dst, .string Y.opts]) ?_⟩
            simp [Act.eval, d22, go_sem, g0, g1, g2, g3, g4, g5, g6, g7, g8]
          | 5, ho =>
            obtain rfl := Option.some.inj ho
            have d99 : bx.tmps.getD 99 undef = .agg #[.int .i64 Y.tos, .int .i64 Y.id, .int .i64 Y.flags, .int .i64 Y.frag, .int .i64 Y.ttl, .int .i64 Y.proto, .int .u32 Y.src, .int .u32 Y.dst, .string Y.opts] := hS.dep 3 99 (by kernel_rfl) (by kernel_rfl)
            have d100 : bx.tmps.getD 100 undef = .agg #[.int .i64 Y.tos, .int .i64 Y.id, .int .i64 Y.flags, .int .i64 Y.frag, .int .i64 Y.ttl, .int .i64 Y.proto, .int .u32 Y.src, .int .u32 Y.dst, .string Y.opts] := hS.dep 4 100 (by kernel_rfl) (by kernel_rfl)
            have gd : bx.tmps.getD 97 undef = .bool true := hS.dep 1 97 (by kernel_rfl) (by kernel_rfl)
            refine .inl ⟨wanted_yes (j := 1) (t := 97) (c := true) (by kernel_rfl) (by kernel_rfl) gd, ends_value' (c := .bool true) ?_⟩
            simp [Act.eval, d99, d100, go_sem]
          | 6, ho =>
            obtain rfl := Option.some.inj ho
            have d97 : bx.tmps.getD 97 undef = .bool true := hS.dep 1 97 (by kernel_rfl) (by kernel_rfl)
            have d101 : bx.tmps.getD 101 undef = .bool true := hS.dep 5 101 (by kernel_rfl) (by kernel_rfl)
            refine .inl ⟨rfl, ends_value' (c := .bool true) ?_⟩
            simp [Act.eval, d97, d101, go_sem]
          | 7, ho =>
            obtain rfl := Option.some.inj ho
            have d102 : bx.tmps.getD 102 undef = .bool true := hS.dep 6 102 (by kernel_rfl) (by kernel_rfl)
            refine .inl ⟨rfl, ends_value' (c := .bool true) ?_⟩
            simp [execOp, Act.eval, d102]
          | 8, ho =>
            obtain rfl := Option.some.inj ho
            have d20 : bx.tmps.getD 20 undef = .string YS := hS.base 20 (by kernel_rfl)
            have gd : bx.tmps.getD 103 undef = .bool true := hS.dep 7 103 (by kernel_rfl) (by kernel_rfl)
            refine .inl ⟨wanted_yes (j := 7) (t := 103) (c := true) (by kernel_rfl) (by kernel_rfl) gd, ends_value' (c := .string YS) ?_⟩
            simp [execOp, Act.eval, d20]
          | 9, ho =>
            obtain rfl := Option.some.inj ho
            have d23 : bx.tmps.getD 23 undef = .string YS := hS.base 23 (by kernel_rfl)
            have gd : bx.tmps.getD 103 undef = .bool true := hS.dep 7 103 (by kernel_rfl) (by kernel_rfl)
            refine .inl ⟨wanted_yes (j := 7) (t := 103) (c := true) (by kernel_rfl) (by kernel_rfl) gd, ends_value' (c := .string YS) ?_⟩
            simp [execOp, Act.eval, d23]
          | 10, ho =>
            obtain rfl := Option.some.inj ho
            have d104 : bx.tmps.getD 104 undef = .string YS := hS.dep 8 104 (by kernel_rfl) (by kernel_rfl)
            have d105 : bx.tmps.getD 105 undef = .string YS := hS.dep 9 105 (by kernel_rfl) (by kernel_rfl)
            have gd : bx.tmps.getD 103 undef = .bool true := hS.dep 7 103 (by kernel_rfl) (by kernel_rfl)
            refine .inl ⟨wanted_yes (j := 7) (t := 103) (c := true) (by kernel_rfl) (by kernel_rfl) gd, ends_value' (c := .bool true) ?_⟩
            simp [Act.eval, d104, d105, go_sem]
          | 11, ho =>
            obtain rfl := Option.some.inj ho
            have d103 : bx.tmps.getD 103 undef = .bool true := hS.dep 7 103 (by kernel_rfl) (by kernel_rfl)
            have d106 : bx.tmps.getD 106 undef = .bool true := hS.dep 10 106 (by kernel_rfl) (by kernel_rfl)
            refine .inl ⟨rfl, ends_value' (c := .bool true) ?_⟩
            simp [Act.eval, d103, d106, go_sem]
          | 12, ho =>
            obtain rfl := Option.some.inj ho
            have d107 : bx.tmps.getD 107 undef = .bool true := hS.dep 11 107 (by kernel_rfl) (by kernel_rfl)
            refine .inl ⟨rfl, ends_value' (c := .bool true) ?_⟩
            simp [execOp, Act.eval, d107]
          | 13, ho =>
            obtain rfl := Option.some.inj ho
            have d21 : bx.tmps.getD 21 undef = .int .i64 YE := hS.base 21 (by kernel_rfl)
            have gd : bx.tmps.getD 108 undef = .bool true := hS.dep 12 108 (by kernel_rfl) (by kernel_rfl)
            refine .inl ⟨wanted_yes (j := 12) (t := 108) (c := true) (by kernel_rfl) (by kernel_rfl) gd, ends_value' (c := .int .i64 YE) ?_⟩
            simp [execOp, Act.eval, d21]
          | 14, ho =>
            obtain rfl := Option.some.inj ho
            have d24 : bx.tmps.getD 24 undef = .int .i64 YE := hS.base 24 (by kernel_rfl)
            have gd : bx.tmps.getD 108 undef = .bool true := hS.dep 12 108 (by kernel_rfl) (by kernel_rfl)
            refine .inl ⟨wanted_yes (j := 12) (t := 108) (c := true) (by kernel_rfl) (by kernel_rfl) gd, ends_value' (c := .int .i64 YE) ?_⟩
            simp [execOp, Act.eval, d24]
          | 15, ho =>
            obtain rfl := Option.some.inj ho
            have d109 : bx.tmps.getD 109 undef = .int .i64 YE := hS.dep 13 109 (by kernel_rfl) (by kernel_rfl)
            have d110 : bx.tmps.getD 110 undef = .int .i64 YE := hS.dep 14 110 (by kernel_rfl) (by kernel_rfl)
            have gd : bx.tmps.getD 108 undef = .bool true := hS.dep 12 108 (by kernel_rfl) (by kernel_rfl)
            refine .inl ⟨wanted_yes (j := 12) (t := 108) (c := true) (by kernel_rfl) (by kernel_rfl) gd, ends_value' (c := .bool true) ?_⟩
            simp [Act.eval, d109, d110, go_sem]
          | 16, ho =>
            obtain rfl := Option.some.inj ho
            have d108 : bx.tmps.getD 108 undef = .bool true := hS.dep 12 108 (by kernel_rfl) (by kernel_rfl)
            have d111 : bx.tmps.getD 111 undef = .bool true := hS.dep 15 111 (by kernel_rfl) (by kernel_rfl)
            refine .inl ⟨rfl, ends_value' (c := .bool true) ?_⟩
            simp [Act.eval, d108, d111, go_sem]
          | 17, ho =>
            obtain rfl := Option.some.inj ho
            have d112 : bx.tmps.getD 112 undef = .bool true := hS.dep 16 112 (by kernel_rfl) (by kernel_rfl)
            refine .inl ⟨rfl, ends_value' (c := .bool true) ?_⟩
            simp [execOp, Act.eval, d112]
          | 18, ho =>
            obtain rfl := Option.some.inj ho
            have d25 : bx.tmps.getD 25 undef = .int .i64 YH := hS.base 25 (by kernel_rfl)
            have gd : bx.tmps.getD 113 undef = .bool true := hS.dep 17 113 (by kernel_rfl) (by kernel_rfl)
            refine .inl ⟨wanted_yes (j := 17) (t := 113) (c := true) (by kernel_rfl) (by kernel_rfl) gd, ends_value' (c := .int .i64 YH) ?_⟩
            simp [execOp, Act.eval, d25]
          | 19, ho =>
            obtain rfl := Option.some.inj ho
            have d28 : bx.tmps.getD 28 undef = .int .i64 YH := hS.base 28 (by kernel_rfl)
            have gd : bx.tmps.getD 113 undef = .bool true := hS.dep 17 113 (by kernel_rfl) (by kernel_rfl)
            refine .inl ⟨wanted_yes (j := 17) (t := 113) (c := true) (by kernel_rfl) (by kernel_rfl) gd, ends_value' (c := .int .i64 YH) ?_⟩
            simp [execOp, Act.eval, d28]
          | 20, ho =>
            obtain rfl := Option.some.inj ho
            have d114 : bx.tmps.getD 114 undef = .int .i64 YH := hS.dep 18 114 (by kernel_rfl) (by kernel_rfl)
            have d115 : bx.tmps.getD 115 undef = .int .i64 YH := hS.dep 19 115 (by kernel_rfl) (by kernel_rfl)
            have gd : bx.tmps.getD 113 undef = .bool true := hS.dep 17 113 (by kernel_rfl) (by kernel_rfl)
            refine .inl ⟨wanted_yes (j := 17) (t := 113) (c := true) (by kernel_rfl) (by kernel_rfl) gd, ends_value' (c := .bool true) ?_⟩
            simp [Act.eval, d114, d115, go_sem]
          | 21, ho =>
            obtain rfl := Option.some.inj ho
            have d113 : bx.tmps.getD 113 undef = .bool true := hS.dep 17 113 (by kernel_rfl) (by kernel_rfl)
            have d116 : bx.tmps.getD 116 undef = .bool true := hS.dep 20 116 (by kernel_rfl) (by kernel_rfl)
            refine .inl ⟨rfl, ends_value' (c := .bool true) ?_⟩
            simp [Act.eval, d113, d116, go_sem]
          | 22, ho =>
            obtain rfl := Option.some.inj ho
            have d117 : bx.tmps.getD 117 undef = .bool true := hS.dep 21 117 (by kernel_rfl) (by kernel_rfl)
            refine .inl ⟨rfl, ends_value' (c := .bool true) ?_⟩
            simp [execOp, Act.eval, d117]
          | 23, ho =>
            obtain rfl := Option.some.inj ho
            have d26 : bx.tmps.getD 26 undef = .int .i64 YT := hS.base 26 (by kernel_rfl)
            have gd : bx.tmps.getD 118 undef = .bool true := hS.dep 22 118 (by kernel_rfl) (by kernel_rfl)
            refine .inl ⟨wanted_yes (j := 22) (t := 118) (c := true) (by kernel_rfl) (by kernel_rfl) gd, ends_value' (c := .int .i64 YT) ?_⟩
            simp [execOp, Act.eval, d26]
          | 24, ho =>
            obtain rfl := Option.some.inj ho
            have d29 : bx.tmps.getD 29 undef = .int .i64 YT := hS.base 29 (by kernel_rfl)
            have gd : bx.tmps.getD 118 undef = .bool true := hS.dep 22 118 (by kernel_rfl) (by kernel_rfl)
            refine .inl ⟨wanted_yes (j := 22) (t := 118) (c := true) (by kernel_rfl) (by kernel_rfl) gd, ends_value' (c := .int .i64 YT) ?_⟩
            simp [execOp, Act.eval, d29]
          | 25, ho =>
            obtain rfl := Option.some.inj ho
            have d119 : bx.tmps.getD 119 undef = .int .i64 YT := hS.dep 23 119 (by kernel_rfl) (by kernel_rfl)
            have d120 : bx.tmps.getD 120 undef = .int .i64 YT := hS.dep 24 120 (by kernel_rfl) (by kernel_rfl)
            have gd : bx.tmps.getD 118 undef = .bool true := hS.dep 22 118 (by kernel_rfl) (by kernel_rfl)
            refine .inl ⟨wanted_yes (j := 22) (t := 118) (c := true) (by kernel_rfl) (by kernel_rfl) gd, ends_value' (c := .bool true) ?_⟩
            simp [Act.eval, d119, d120, go_sem]
          | 26, ho =>
            obtain rfl := Option.some.inj ho
            have d118 : bx.tmps.getD 118 undef = .bool true := hS.dep 22 118 (by kernel_rfl) (by kernel_rfl)
            have d121 : bx.tmps.getD 121 undef = .bool true := hS.dep 25 121 (by kernel_rfl) (by kernel_rfl)
            refine .inl ⟨rfl, ends_value' (c := .bool true) ?_⟩
            simp [Act.eval, d118, d121, go_sem]
          | 27, ho =>
            obtain rfl := Option.some.inj ho
            have d122 : bx.tmps.getD 122 undef = .bool true := hS.dep 26 122 (by kernel_rfl) (by kernel_rfl)
            refine .inl ⟨rfl, ends_value' (c := .bool true) ?_⟩
            simp [execOp, Act.eval, d122]
          | 28, ho =>
            obtain rfl := Option.some.inj ho
            have d27 : bx.tmps.getD 27 undef = .bool (decide (E = 0)) := hS.base 27 (by kernel_rfl)
            have gd : bx.tmps.getD 123 undef = .bool true := hS.dep 27 123 (by kernel_rfl) (by kernel_rfl)
            refine .inl ⟨wanted_yes (j := 27) (t := 123) (c := true) (by kernel_rfl) (by kernel_rfl) gd, ends_value' (c := .bool (decide (E = 0))) ?_⟩
            simp [execOp, Act.eval, d27]
          | 29, ho =>
            obtain rfl := Option.some.inj ho
            have d30 : bx.tmps.getD 30 undef = .int .i64 E := hS.base 30 (by kernel_rfl)
            have gd : bx.tmps.getD 123 undef = .bool true := hS.dep 27 123 (by kernel_rfl) (by kernel_rfl)
            refine .inl ⟨wanted_yes (j := 27) (t := 123) (c := true) (by kernel_rfl) (by kernel_rfl) gd, ends_value' (c := .int .i64 E) ?_⟩
            simp [execOp, Act.eval, d30]
          | 30, ho =>
            obtain rfl := Option.some.inj ho
            have d125 : bx.tmps.getD 125 undef = .int .i64 E := hS.dep 29 125 (by kernel_rfl) (by kernel_rfl)
            have gd : bx.tmps.getD 123 undef = .bool true := hS.dep 27 123 (by kernel_rfl) (by kernel_rfl)
            refine .inl ⟨wanted_yes (j := 27) (t := 123) (c := true) (by kernel_rfl) (by kernel_rfl) gd, ends_value' (c := .bool (decide (E = 0))) ?_⟩
            simp [Act.eval, d125, go_sem, hEb]
          | 31, ho =>
            obtain rfl := Option.some.inj ho
            have d124 : bx.tmps.getD 124 undef = .bool (decide (E = 0)) := hS.dep 28 124 (by kernel_rfl) (by kernel_rfl)
            have d126 : bx.tmps.getD 126 undef = .bool (decide (E = 0)) := hS.dep 30 126 (by kernel_rfl) (by kernel_rfl)
            have gd : bx.tmps.getD 123 undef = .bool true := hS.dep 27 123 (by kernel_rfl) (by kernel_rfl)
            refine .inl ⟨wanted_yes (j := 27) (t := 123) (c := true) (by kernel_rfl) (by kernel_rfl) gd, ends_value' (c := .bool true) ?_⟩
            simp [Act.eval, d124, d126, go_sem]
          | 32, ho =>
            obtain rfl := Option.some.inj ho
            have d123 : bx.tmps.getD 123 undef = .bool true := hS.dep 27 123 (by kernel_rfl) (by kernel_rfl)
            have d127 : bx.tmps.getD 127 undef = .bool true := hS.dep 31 127 (by kernel_rfl) (by kernel_rfl)
            refine .inl ⟨rfl, ends_value' (c := .bool true) ?_⟩
            simp [Act.eval, d123, d127, go_sem]
          | 33, ho =>
            obtain rfl := Option.some.inj ho
            have d128 : bx.tmps.getD 128 undef = .bool true := hS.dep 32 128 (by kernel_rfl) (by kernel_rfl)
            refine .inl ⟨rfl, ends_value' (c := .bool true) ?_⟩
            simp [execOp, Act.eval, d128]
          | n + 34, ho => exact absurd ho (by simp)
        case fin =>
          intro u hbel
          simp [putAll, dstAt, Act.put]
          go_wp2_with fail
          go_ret
          exact ⟨rfl, (unhide KB).drew.trans (hbel.mono (by omega))⟩

theorem own : ownKnob Try.prog.godebug = none := by kernel_rfl
set_option maxRecDepth 100000 in
theorem lifted (os : Os) (started : os.Started) (H : Type) (enc : TypeId × Value → H) :
    ReturnsInHanded {} Try.checked os 4 .any (Rows.ip4ParsesSpec.pre6 enc Try.prog Try.f4 Rows.ip4ParsesRow.domain false) (Rows.ip4ParsesSpec.post enc Try.prog Try.f4 false true false false) := by
  refine returnsInHanded_of_change_sized (C := Try.checked) own started (by kernel_rfl) Try.func4
    (ChangeSpec.witness6 (enc := enc) (C := Try.checked) false ⟨#[], #[.string ByteArray.empty, .agg #[.int .i64 0, .int .i64 0, .int .i64 0, .int .i64 0, .int .i64 0, .int .i64 0, .int .u32 0, .int .u32 0, .string ByteArray.empty], .string ByteArray.empty, .bool false, .int .i64 0, .int .u8 0, .string ByteArray.empty], []⟩ 8 (by kernel_rfl) (by kernel_rfl) (by kernel_rfl) (by kernel_rfl)) ?_
  intro W base args ds gs before hval0 hW hcnd hsz _
  have hval : ∀ (j : Nat) t v, Try.f4.params[j]? = some t → args[j]? = some v → Value.okWide Try.prog W .any base t v := hval0
  have hW' := hW
  obtain ⟨p, q, hA0, hV, rfl, hfz, hnd⟩ := hW
  have hA : DataW.TrodAll enc Try.prog W 0 (fun _ => true) true Try.f4.params.toList args.toList ds p := hA0
  rw [Try.params4] at hA hval
  obtain ⟨v0, vs0, d0, ds0, p0, q0, hargs, rfl, rfl, h0, r0⟩ := trodAll_cons hA
  obtain ⟨v1, vs1, d1, ds1, p1, q1, rfl, rfl, rfl, h1, r1⟩ := trodAll_cons r0
  obtain ⟨v2, vs2, d2, ds2, p2, q2, rfl, rfl, rfl, h2, r2⟩ := trodAll_cons r1
  obtain ⟨v3, vs3, d3, ds3, p3, q3, rfl, rfl, rfl, h3, r3⟩ := trodAll_cons r2
  obtain ⟨v4, vs4, d4, ds4, p4, q4, rfl, rfl, rfl, h4, r4⟩ := trodAll_cons r3
  obtain ⟨v5, vs5, d5, ds5, p5, q5, rfl, rfl, rfl, h5, r5⟩ := trodAll_cons r4
  obtain ⟨v6, vs6, d6, ds6, p6, q6, rfl, rfl, rfl, h6, r6⟩ := trodAll_cons r5
  obtain ⟨rfl, rfl, rfl⟩ := trodAll_nil r6
  obtain rfl : args = #[v0, v1, v2, v3, v4, v5, v6] := by cases args; simp_all
  obtain ⟨rfl, rfl⟩ := trodVars_none hV
  obtain ⟨a0, rfl, rfl, rfl, w0⟩ := open_string Try.underlying9 (hval 0 9 v0 rfl rfl) h0
  obtain ⟨a1, rfl, rfl, rfl, f1⟩ := open_head (hval 1 24 v1 rfl rfl) h1
  obtain ⟨a2, rfl, rfl, rfl, w2⟩ := open_string Try.underlying9 (hval 2 9 v2 rfl rfl) h2
  obtain ⟨a3, rfl, rfl, rfl⟩ := open_bool Try.underlying4 (hval 3 4 v3 rfl rfl) h3
  obtain ⟨a4, rfl, rfl, rfl, w4⟩ := open_int Try.underlying3 (hval 4 3 v4 rfl rfl) h4
  obtain ⟨a5, rfl, rfl, rfl, w5⟩ := open_int Try.underlying5 (hval 5 5 v5 rfl rfl) h5
  obtain ⟨a6, rfl, rfl, rfl, w6⟩ := open_string Try.underlying9 (hval 6 9 v6 rfl rfl) h6
  clear hA0 hval0
  simp only [List.append_nil] at hW'
  have z0 : a0.size ≤ 140737488355328 := by
    have hq : a0.data.toList.length ≤ reachBytes := sized_string hsz (j := 0) (t := 9) rfl rfl
    have e : a0.data.toList.length = a0.size := by rw [Array.length_toList]; rfl
    rw [e] at hq
    exact Nat.le_trans hq (by decide)
  have w1 : a1.Wf := f1.wf (sized_head hsz (j := 1) rfl rfl)
  have z2 : a2.size ≤ 140737488355328 := by
    have hq : a2.data.toList.length ≤ reachBytes := sized_string hsz (j := 2) (t := 9) rfl rfl
    have e : a2.data.toList.length = a2.size := by rw [Array.length_toList]; rfl
    rw [e] at hq
    exact Nat.le_trans hq (by decide)
  have z6 : a6.size ≤ 140737488355328 := by
    have hq : a6.data.toList.length ≤ reachBytes := sized_string hsz (j := 6) (t := 9) rfl rfl
    have e : a6.data.toList.length = a6.size := by rw [Array.length_toList]; rfl
    rw [e] at hq
    exact Nat.le_trans hq (by decide)
  refine (walk W a0 z0 a1 w1 a2 z2 a3 a4 w4 a5 w5 a6 z6).mono fun e W' ⟨he, bel⟩ => ?_
  subst he
  exact ⟨_, rfl, _, _, _, [], _, [], hW', (trodAll_cons_mk (shut_bool Try.underlying4 _) trodAll_mk0), (trodAll_cons_mk (shut_string Try.underlying9 w0) (trodAll_cons_mk (shut_head a1 f1) (trodAll_cons_mk (shut_string Try.underlying9 w2) (trodAll_cons_mk (shut_bool Try.underlying4 _) (trodAll_cons_mk (shut_int Try.underlying3 w4) (trodAll_cons_mk (shut_int Try.underlying5 w5) (trodAll_cons_mk (shut_string Try.underlying9 w6) trodAll_mk0))))))), rfl, bel.frame _, fun h => by cases h⟩

theorem over : Rows.ip4ParsesRow.holds Try.pinned (OpenSpec.ofChange Rows.ip4ParsesSpec) :=
  OpenClaim.holds_of_wide 4 Try.f4 rfl rfl rfl rfl rfl rfl rfl ⟨rfl, rfl, rfl, rfl, rfl⟩ rfl rfl rfl rfl rfl (by kernel_rfl) Try.func4 (by kernel_rfl)
    (of_decide_eq_true (by kernel_rfl)) (by unfold Func.isWrapper; first | (rw [if_pos (by decide +kernel)]; kernel_rfl) | (rw [if_neg (by decide +kernel)]; exact ⟨rfl, rfl⟩))
    (fun os started H enc _ => lifted os started H enc)

theorem proved : Rows.Ip4ParsesSaid := over
#print axioms proved
end Go.Proofs.Ytfppjpcolohmfaa.ip4Parses
