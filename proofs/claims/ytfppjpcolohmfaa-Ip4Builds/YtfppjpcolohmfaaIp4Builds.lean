/- The law Ip4Builds returns true for every header and body: what Build, Right and OptsRight answer is what the reference answers. -/
import Derived.Test.YtfppjpcolohmfaaRows
import Derived.OpenShut
import Derived.ShutString
import Derived.ChangeOld
import Derived.Below
import Derived.SizedLaws
import Derived.Test.YtfppjpcolohmfaaIpOpen
import Derived.Test.YtfppjpcolohmfaaIpRefB
import Derived.Test.YtfppjpcolohmfaaIpKept
namespace Go.Proofs.Ytfppjpcolohmfaa.ip4Builds
open Go.ChangeShapes Go.WideShapes Go.ChangeAt Go.RowKit
open Go.ChangeMaps (open_string shut_string)
set_option linter.unusedVariables false
theorem optsRight_quiet (s : ByteArray) (w : World) (hs : s.size ≤ 140737488355328) : Calls Try.prog 16 #[.string s] w fun e w' => e = .returned (.bool (optsOk s.data.toList)) ∧ Below w.heap.size w w' :=
  (optsRight_any s w hs).mono fun _ _ ⟨h1, h2⟩ => ⟨h1, by rw [h2]; exact Below.refl _ _⟩
theorem roptsRight_quiet (s : ByteArray) (w : World) (hs : s.size ≤ 140737488355328) : Calls Try.prog 17 #[.string s] w fun e w' => e = .returned (.bool (optsOk s.data.toList)) ∧ Below w.heap.size w w' :=
  (roptsRight_any s w hs).mono fun _ _ ⟨h1, h2⟩ => ⟨h1, by rw [h2]; exact Below.refl _ _⟩
set_option maxHeartbeats 1000000 in
set_option maxRecDepth 100000 in
theorem walk (w : World) (a0 : Hd) (w0 : a0.Wf) (a1 : ByteArray) (z1 : a1.size ≤ 140737488355328) :
    Calls Try.prog 3 #[a0.val, .string a1] w fun e w' => e = .returned (.bool true) ∧ Below w.heap.size w w' := by
  have hk0 := kept_new w a0 24
  have hos := w0.opts
  go_enter Try.func3, Try.ntmps3
  go_wp2_with fail
  refine (examples_ok _).mono ?_
  rintro e w1 ⟨rfl, hb1⟩
  have hk1 := hk0.on hb1
  clear hb1 hk0
  have q0 := (hk1.at_) 0 (by decide)
  have q1 := (hk1.at_) 1 (by decide)
  have q2 := (hk1.at_) 2 (by decide)
  have q3 := (hk1.at_) 3 (by decide)
  have q4 := (hk1.at_) 4 (by decide)
  have q5 := (hk1.at_) 5 (by decide)
  have q6 := (hk1.at_) 6 (by decide)
  have q7 := (hk1.at_) 7 (by decide)
  have q8 := (hk1.at_) 8 (by decide)
  simp only [hcell] at q0 q1 q2 q3 q4 q5 q6 q7 q8
  have HK := hide hk1
  clear hk1
  go_wp2_with fail
  refine (build_any a0 a1 _ w0 z1).mono ?_
  rintro e w2 ⟨rfl, hb2⟩
  have hk2 := (unhide HK).on hb2
  clear HK hb2
  clear q0 q1 q2 q3 q4 q5 q6 q7 q8
  have q0 := (hk2.at_) 0 (by decide)
  have q1 := (hk2.at_) 1 (by decide)
  have q2 := (hk2.at_) 2 (by decide)
  have q3 := (hk2.at_) 3 (by decide)
  have q4 := (hk2.at_) 4 (by decide)
  have q5 := (hk2.at_) 5 (by decide)
  have q6 := (hk2.at_) 6 (by decide)
  have q7 := (hk2.at_) 7 (by decide)
  have q8 := (hk2.at_) 8 (by decide)
  simp only [hcell] at q0 q1 q2 q3 q4 q5 q6 q7 q8
  have HK := hide hk2
  clear hk2
  go_wp2_with fail
  refine (ref_any a0 _).mono ?_
  rintro e w3 ⟨rfl, hb3⟩
  have hk3 := (unhide HK).on hb3
  clear HK hb3
  clear q0 q1 q2 q3 q4 q5 q6 q7 q8
  have HK := hide hk3
  clear hk3
  go_wp2_with fail
  refine (rbuild_any a0 a1 _ w0 z1).mono ?_
  rintro e w4 ⟨rfl, hb4⟩
  have hk4 := (unhide HK).on hb4
  clear HK hb4
  have HK := hide hk4
  clear hk4
  go_wp2_with fail
  generalize buildS a0 a1 = BS at *
  generalize buildE a0 a1 = BE at *
  refine wp_region_grow (by kernel_rfl) [.bool true, .bool true, .string BS, .string BS, .bool true, .bool true, .bool true, .int .i64 BE, .int .i64 BE, .bool true, .bool true, .bool true, .agg #[.int .i64 a0.tos, .int .i64 a0.id, .int .i64 a0.flags, .int .i64 a0.frag, .int .i64 a0.ttl, .int .i64 a0.proto, .int .u32 a0.src, .int .u32 a0.dst, .string a0.opts], .bool (rightB a0), .agg #[.int .i64 a0.tos, .int .i64 a0.id, .int .i64 a0.flags, .int .i64 a0.frag, .int .i64 a0.ttl, .int .i64 a0.proto, .int .u32 a0.src, .int .u32 a0.dst, .string a0.opts], .agg #[.int .i64 a0.tos, .int .i64 a0.id, .int .i64 a0.flags, .int .i64 a0.frag, .int .i64 a0.ttl, .int .i64 a0.proto, .int .u32 a0.src, .int .u32 a0.dst, .string a0.opts], .bool (rightB a0), .bool true, .bool true, .bool true, .pointer (some ⟨w.heap.size, 8, none⟩), .string a0.opts, .bool (optsOk a0.opts.data.toList), .pointer (some ⟨w.heap.size, 8, none⟩), .string a0.opts, .bool (optsOk a0.opts.data.toList), .bool true, .bool true, .bool true] (by kernel_rfl) ?op ?fin
  case op =>
    intro i o bx u ho hbel hS
    match i, ho with
    | 0, ho =>
      obtain rfl := Option.some.inj ho
      have d5 : bx.tmps.getD 5 undef = .bool true := hS.base 5 (by kernel_rfl)
      refine .inl ⟨rfl, ends_value' (c := .bool true) ?_⟩
      simp [execOp, Act.eval, d5]
    | 1, ho =>
      obtain rfl := Option.some.inj ho
      have d26 : bx.tmps.getD 26 undef = .bool true := hS.dep 0 26 (by kernel_rfl) (by kernel_rfl)
      refine .inl ⟨rfl, ends_value' (c := .bool true) ?_⟩
      simp [execOp, Act.eval, d26]
    | 2, ho =>
      obtain rfl := Option.some.inj ho
      have d6 : bx.tmps.getD 6 undef = .string BS := hS.base 6 (by kernel_rfl)
      have gd : bx.tmps.getD 27 undef = .bool true := hS.dep 1 27 (by kernel_rfl) (by kernel_rfl)
      refine .inl ⟨wanted_yes (j := 1) (t := 27) (c := true) (by kernel_rfl) (by kernel_rfl) gd, ends_value' (c := .string BS) ?_⟩
      simp [execOp, Act.eval, d6]
    | 3, ho =>
      obtain rfl := Option.some.inj ho
      have d8 : bx.tmps.getD 8 undef = .string BS := hS.base 8 (by kernel_rfl)
      have gd : bx.tmps.getD 27 undef = .bool true := hS.dep 1 27 (by kernel_rfl) (by kernel_rfl)
      refine .inl ⟨wanted_yes (j := 1) (t := 27) (c := true) (by kernel_rfl) (by kernel_rfl) gd, ends_value' (c := .string BS) ?_⟩
      simp [execOp, Act.eval, d8]
    | 4, ho =>
      obtain rfl := Option.some.inj ho
      have d28 : bx.tmps.getD 28 undef = .string BS := hS.dep 2 28 (by kernel_rfl) (by kernel_rfl)
      have d29 : bx.tmps.getD 29 undef = .string BS := hS.dep 3 29 (by kernel_rfl) (by kernel_rfl)
      have gd : bx.tmps.getD 27 undef = .bool true := hS.dep 1 27 (by kernel_rfl) (by kernel_rfl)
      refine .inl ⟨wanted_yes (j := 1) (t := 27) (c := true) (by kernel_rfl) (by kernel_rfl) gd, ends_value' (c := .bool true) ?_⟩
      simp [Act.eval, d28, d29, go_sem]
    | 5, ho =>
      obtain rfl := Option.some.inj ho
      have d27 : bx.tmps.getD 27 undef = .bool true := hS.dep 1 27 (by kernel_rfl) (by kernel_rfl)
      have d30 : bx.tmps.getD 30 undef = .bool true := hS.dep 4 30 (by kernel_rfl) (by kernel_rfl)
      refine .inl ⟨rfl, ends_value' (c := .bool true) ?_⟩
      simp [Act.eval, d27, d30, go_sem]
    | 6, ho =>
      obtain rfl := Option.some.inj ho
      have d31 : bx.tmps.getD 31 undef = .bool true := hS.dep 5 31 (by kernel_rfl) (by kernel_rfl)
      refine .inl ⟨rfl, ends_value' (c := .bool true) ?_⟩
      simp [execOp, Act.eval, d31]
    | 7, ho =>
      obtain rfl := Option.some.inj ho
      have d7 : bx.tmps.getD 7 undef = .int .i64 BE := hS.base 7 (by kernel_rfl)
      have gd : bx.tmps.getD 32 undef = .bool true := hS.dep 6 32 (by kernel_rfl) (by kernel_rfl)
      refine .inl ⟨wanted_yes (j := 6) (t := 32) (c := true) (by kernel_rfl) (by kernel_rfl) gd, ends_value' (c := .int .i64 BE) ?_⟩
      simp [execOp, Act.eval, d7]
    | 8, ho =>
      obtain rfl := Option.some.inj ho
      have d9 : bx.tmps.getD 9 undef = .int .i64 BE := hS.base 9 (by kernel_rfl)
      have gd : bx.tmps.getD 32 undef = .bool true := hS.dep 6 32 (by kernel_rfl) (by kernel_rfl)
      refine .inl ⟨wanted_yes (j := 6) (t := 32) (c := true) (by kernel_rfl) (by kernel_rfl) gd, ends_value' (c := .int .i64 BE) ?_⟩
      simp [execOp, Act.eval, d9]
    | 9, ho =>
      obtain rfl := Option.some.inj ho
      have d33 : bx.tmps.getD 33 undef = .int .i64 BE := hS.dep 7 33 (by kernel_rfl) (by kernel_rfl)
      have d34 : bx.tmps.getD 34 undef = .int .i64 BE := hS.dep 8 34 (by kernel_rfl) (by kernel_rfl)
      have gd : bx.tmps.getD 32 undef = .bool true := hS.dep 6 32 (by kernel_rfl) (by kernel_rfl)
      refine .inl ⟨wanted_yes (j := 6) (t := 32) (c := true) (by kernel_rfl) (by kernel_rfl) gd, ends_value' (c := .bool true) ?_⟩
      simp [Act.eval, d33, d34, go_sem]
    | 10, ho =>
      obtain rfl := Option.some.inj ho
      have d32 : bx.tmps.getD 32 undef = .bool true := hS.dep 6 32 (by kernel_rfl) (by kernel_rfl)
      have d35 : bx.tmps.getD 35 undef = .bool true := hS.dep 9 35 (by kernel_rfl) (by kernel_rfl)
      refine .inl ⟨rfl, ends_value' (c := .bool true) ?_⟩
      simp [Act.eval, d32, d35, go_sem]
    | 11, ho =>
      obtain rfl := Option.some.inj ho
      have d36 : bx.tmps.getD 36 undef = .bool true := hS.dep 10 36 (by kernel_rfl) (by kernel_rfl)
      refine .inl ⟨rfl, ends_value' (c := .bool true) ?_⟩
      simp [execOp, Act.eval, d36]
    | 12, ho =>
      obtain rfl := Option.some.inj ho
      have d2 : bx.tmps.getD 2 undef = .pointer (some ⟨w.heap.size, 0, none⟩) := hS.base 2 (by kernel_rfl)
      have gd : bx.tmps.getD 37 undef = .bool true := hS.dep 11 37 (by kernel_rfl) (by kernel_rfl)
      have g := (unhide HK).on' hbel
      have g0 := g.at_ 0 (by decide)
      have g1 := g.at_ 1 (by decide)
      have g2 := g.at_ 2 (by decide)
      have g3 := g.at_ 3 (by decide)
      have g4 := g.at_ 4 (by decide)
      have g5 := g.at_ 5 (by decide)
      have g6 := g.at_ 6 (by decide)
      have g7 := g.at_ 7 (by decide)
      have g8 := g.at_ 8 (by decide)
      simp only [hcell] at g0 g1 g2 g3 g4 g5 g6 g7 g8
      refine .inl ⟨wanted_yes (j := 11) (t := 37) (c := true) (by kernel_rfl) (by kernel_rfl) gd, ends_value' (c := .agg #[.int .i64 a0.tos, .int .i64 a0.id, .int .i64 a0.flags, .int .i64 a0.frag, .int .i64 a0.ttl, .int .i64 a0.proto, .int .u32 a0.src, .int .u32 a0.dst, .string a0.opts]) ?_⟩
      simp [Act.eval, d2, go_sem, g0, g1, g2, g3, g4, g5, g6, g7, g8]
    | 13, ho =>
      obtain rfl := Option.some.inj ho
      have d38 : bx.tmps.getD 38 undef = .agg #[.int .i64 a0.tos, .int .i64 a0.id, .int .i64 a0.flags, .int .i64 a0.frag, .int .i64 a0.ttl, .int .i64 a0.proto, .int .u32 a0.src, .int .u32 a0.dst, .string a0.opts] := hS.dep 12 38 (by kernel_rfl) (by kernel_rfl)
      have gd : bx.tmps.getD 37 undef = .bool true := hS.dep 11 37 (by kernel_rfl) (by kernel_rfl)
      refine .inl ⟨wanted_yes (j := 11) (t := 37) (c := true) (by kernel_rfl) (by kernel_rfl) gd, ends_call' (c := .bool (rightB a0)) (f := 14) (args := #[a0.val]) ?_ (right_any a0 u w0)⟩
      simp [Act.eval, d38, go_sem]
    | 14, ho =>
      obtain rfl := Option.some.inj ho
      have d2 : bx.tmps.getD 2 undef = .pointer (some ⟨w.heap.size, 0, none⟩) := hS.base 2 (by kernel_rfl)
      have gd : bx.tmps.getD 37 undef = .bool true := hS.dep 11 37 (by kernel_rfl) (by kernel_rfl)
      have g := (unhide HK).on' hbel
      have g0 := g.at_ 0 (by decide)
      have g1 := g.at_ 1 (by decide)
      have g2 := g.at_ 2 (by decide)
      have g3 := g.at_ 3 (by decide)
      have g4 := g.at_ 4 (by decide)
      have g5 := g.at_ 5 (by decide)
      have g6 := g.at_ 6 (by decide)
      have g7 := g.at_ 7 (by decide)
      have g8 := g.at_ 8 (by decide)
      simp only [hcell] at g0 g1 g2 g3 g4 g5 g6 g7 g8
      refine .inl ⟨wanted_yes (j := 11) (t := 37) (c := true) (by kernel_rfl) (by kernel_rfl) gd, ends_value' (c := .agg #[.int .i64 a0.tos, .int .i64 a0.id, .int .i64 a0.flags, .int .i64 a0.frag, .int .i64 a0.ttl, .int .i64 a0.proto, .int .u32 a0.src, .int .u32 a0.dst, .string a0.opts]) ?_⟩
      simp [Act.eval, d2, go_sem, g0, g1, g2, g3, g4, g5, g6, g7, g8]
    | 15, ho =>
      obtain rfl := Option.some.inj ho
      have d40 : bx.tmps.getD 40 undef = .agg #[.int .i64 a0.tos, .int .i64 a0.id, .int .i64 a0.flags, .int .i64 a0.frag, .int .i64 a0.ttl, .int .i64 a0.proto, .int .u32 a0.src, .int .u32 a0.dst, .string a0.opts] := hS.dep 14 40 (by kernel_rfl) (by kernel_rfl)
      have gd : bx.tmps.getD 37 undef = .bool true := hS.dep 11 37 (by kernel_rfl) (by kernel_rfl)
      refine .inl ⟨wanted_yes (j := 11) (t := 37) (c := true) (by kernel_rfl) (by kernel_rfl) gd, ends_call' (c := .agg #[.int .i64 a0.tos, .int .i64 a0.id, .int .i64 a0.flags, .int .i64 a0.frag, .int .i64 a0.ttl, .int .i64 a0.proto, .int .u32 a0.src, .int .u32 a0.dst, .string a0.opts]) (f := 13) (args := #[a0.val]) ?_ (ref_any a0 u)⟩
      simp [Act.eval, d40, go_sem]
    | 16, ho =>
      obtain rfl := Option.some.inj ho
      have d41 : bx.tmps.getD 41 undef = .agg #[.int .i64 a0.tos, .int .i64 a0.id, .int .i64 a0.flags, .int .i64 a0.frag, .int .i64 a0.ttl, .int .i64 a0.proto, .int .u32 a0.src, .int .u32 a0.dst, .string a0.opts] := hS.dep 15 41 (by kernel_rfl) (by kernel_rfl)
      have gd : bx.tmps.getD 37 undef = .bool true := hS.dep 11 37 (by kernel_rfl) (by kernel_rfl)
      refine .inl ⟨wanted_yes (j := 11) (t := 37) (c := true) (by kernel_rfl) (by kernel_rfl) gd, ends_call' (c := .bool (rightB a0)) (f := 15) (args := #[a0.val]) ?_ (rright_any a0 u w0)⟩
      simp [Act.eval, d41, go_sem]
    | 17, ho =>
      obtain rfl := Option.some.inj ho
      have d39 : bx.tmps.getD 39 undef = .bool (rightB a0) := hS.dep 13 39 (by kernel_rfl) (by kernel_rfl)
      have d42 : bx.tmps.getD 42 undef = .bool (rightB a0) := hS.dep 16 42 (by kernel_rfl) (by kernel_rfl)
      have gd : bx.tmps.getD 37 undef = .bool true := hS.dep 11 37 (by kernel_rfl) (by kernel_rfl)
      refine .inl ⟨wanted_yes (j := 11) (t := 37) (c := true) (by kernel_rfl) (by kernel_rfl) gd, ends_value' (c := .bool true) ?_⟩
      simp [Act.eval, d39, d42, go_sem]
    | 18, ho =>
      obtain rfl := Option.some.inj ho
      have d37 : bx.tmps.getD 37 undef = .bool true := hS.dep 11 37 (by kernel_rfl) (by kernel_rfl)
      have d43 : bx.tmps.getD 43 undef = .bool true := hS.dep 17 43 (by kernel_rfl) (by kernel_rfl)
      refine .inl ⟨rfl, ends_value' (c := .bool true) ?_⟩
      simp [Act.eval, d37, d43, go_sem]
    | 19, ho =>
      obtain rfl := Option.some.inj ho
      have d44 : bx.tmps.getD 44 undef = .bool true := hS.dep 18 44 (by kernel_rfl) (by kernel_rfl)
      refine .inl ⟨rfl, ends_value' (c := .bool true) ?_⟩
      simp [execOp, Act.eval, d44]
    | 20, ho =>
      obtain rfl := Option.some.inj ho
      have d2 : bx.tmps.getD 2 undef = .pointer (some ⟨w.heap.size, 0, none⟩) := hS.base 2 (by kernel_rfl)
      have gd : bx.tmps.getD 45 undef = .bool true := hS.dep 19 45 (by kernel_rfl) (by kernel_rfl)
      refine .inl ⟨wanted_yes (j := 19) (t := 45) (c := true) (by kernel_rfl) (by kernel_rfl) gd, ends_value' (c := .pointer (some ⟨w.heap.size, 8, none⟩)) ?_⟩
      simp [Act.eval, d2, go_sem]
    | 21, ho =>
      obtain rfl := Option.some.inj ho
      have d46 : bx.tmps.getD 46 undef = .pointer (some ⟨w.heap.size, 8, none⟩) := hS.dep 20 46 (by kernel_rfl) (by kernel_rfl)
      have gd : bx.tmps.getD 45 undef = .bool true := hS.dep 19 45 (by kernel_rfl) (by kernel_rfl)
      have hl := ((unhide HK).on' hbel).at_ 8 (by decide)
      refine .inl ⟨wanted_yes (j := 19) (t := 45) (c := true) (by kernel_rfl) (by kernel_rfl) gd, ends_value' (c := .string a0.opts) ?_⟩
      simp [Act.eval, d46, go_sem, hl, hcell]
    | 22, ho =>
      obtain rfl := Option.some.inj ho
      have d47 : bx.tmps.getD 47 undef = .string a0.opts := hS.dep 21 47 (by kernel_rfl) (by kernel_rfl)
      have gd : bx.tmps.getD 45 undef = .bool true := hS.dep 19 45 (by kernel_rfl) (by kernel_rfl)
      refine .inl ⟨wanted_yes (j := 19) (t := 45) (c := true) (by kernel_rfl) (by kernel_rfl) gd, ends_call' (c := .bool (optsOk a0.opts.data.toList)) (f := 16) (args := #[.string a0.opts]) ?_ (optsRight_quiet a0.opts u hos)⟩
      simp [Act.eval, d47, go_sem]
    | 23, ho =>
      obtain rfl := Option.some.inj ho
      have d2 : bx.tmps.getD 2 undef = .pointer (some ⟨w.heap.size, 0, none⟩) := hS.base 2 (by kernel_rfl)
      have gd : bx.tmps.getD 45 undef = .bool true := hS.dep 19 45 (by kernel_rfl) (by kernel_rfl)
      refine .inl ⟨wanted_yes (j := 19) (t := 45) (c := true) (by kernel_rfl) (by kernel_rfl) gd, ends_value' (c := .pointer (some ⟨w.heap.size, 8, none⟩)) ?_⟩
      simp [Act.eval, d2, go_sem]
    | 24, ho =>
      obtain rfl := Option.some.inj ho
      have d49 : bx.tmps.getD 49 undef = .pointer (some ⟨w.heap.size, 8, none⟩) := hS.dep 23 49 (by kernel_rfl) (by kernel_rfl)
      have gd : bx.tmps.getD 45 undef = .bool true := hS.dep 19 45 (by kernel_rfl) (by kernel_rfl)
      have hl := ((unhide HK).on' hbel).at_ 8 (by decide)
      refine .inl ⟨wanted_yes (j := 19) (t := 45) (c := true) (by kernel_rfl) (by kernel_rfl) gd, ends_value' (c := .string a0.opts) ?_⟩
      simp [Act.eval, d49, go_sem, hl, hcell]
    | 25, ho =>
      obtain rfl := Option.some.inj ho
      have d50 : bx.tmps.getD 50 undef = .string a0.opts := hS.dep 24 50 (by kernel_rfl) (by kernel_rfl)
      have gd : bx.tmps.getD 45 undef = .bool true := hS.dep 19 45 (by kernel_rfl) (by kernel_rfl)
      refine .inl ⟨wanted_yes (j := 19) (t := 45) (c := true) (by kernel_rfl) (by kernel_rfl) gd, ends_call' (c := .bool (optsOk a0.opts.data.toList)) (f := 17) (args := #[.string a0.opts]) ?_ (roptsRight_quiet a0.opts u hos)⟩
      simp [Act.eval, d50, go_sem]
    | 26, ho =>
      obtain rfl := Option.some.inj ho
      have d48 : bx.tmps.getD 48 undef = .bool (optsOk a0.opts.data.toList) := hS.dep 22 48 (by kernel_rfl) (by kernel_rfl)
      have d51 : bx.tmps.getD 51 undef = .bool (optsOk a0.opts.data.toList) := hS.dep 25 51 (by kernel_rfl) (by kernel_rfl)
      have gd : bx.tmps.getD 45 undef = .bool true := hS.dep 19 45 (by kernel_rfl) (by kernel_rfl)
      refine .inl ⟨wanted_yes (j := 19) (t := 45) (c := true) (by kernel_rfl) (by kernel_rfl) gd, ends_value' (c := .bool true) ?_⟩
      simp [Act.eval, d48, d51, go_sem]
    | 27, ho =>
      obtain rfl := Option.some.inj ho
      have d45 : bx.tmps.getD 45 undef = .bool true := hS.dep 19 45 (by kernel_rfl) (by kernel_rfl)
      have d52 : bx.tmps.getD 52 undef = .bool true := hS.dep 26 52 (by kernel_rfl) (by kernel_rfl)
      refine .inl ⟨rfl, ends_value' (c := .bool true) ?_⟩
      simp [Act.eval, d45, d52, go_sem]
    | 28, ho =>
      obtain rfl := Option.some.inj ho
      have d53 : bx.tmps.getD 53 undef = .bool true := hS.dep 27 53 (by kernel_rfl) (by kernel_rfl)
      refine .inl ⟨rfl, ends_value' (c := .bool true) ?_⟩
      simp [execOp, Act.eval, d53]
    | n + 29, ho => exact absurd ho (by simp)
  case fin =>
    intro u hbel
    simp [putAll, dstAt, Act.put]
    have hk9 := (unhide HK).on' hbel
    go_wp2_with fail
    go_ret
    exact ⟨rfl, hk9.below⟩

theorem own : ownKnob Try.prog.godebug = none := by kernel_rfl
set_option maxRecDepth 100000 in
theorem lifted (os : Os) (started : os.Started) (H : Type) (enc : TypeId × Value → H) :
    ReturnsInHanded {} Try.checked os 3 .any (Rows.ip4BuildsSpec.pre6 enc Try.prog Try.f3 Rows.ip4BuildsRow.domain false) (Rows.ip4BuildsSpec.post enc Try.prog Try.f3 false true false false) := by
  refine returnsInHanded_of_change_sized (C := Try.checked) own started (by kernel_rfl) Try.func3
    (ChangeSpec.witness6 (enc := enc) (C := Try.checked) false ⟨#[], #[.agg #[.int .i64 0, .int .i64 0, .int .i64 0, .int .i64 0, .int .i64 0, .int .i64 0, .int .u32 0, .int .u32 0, .string ByteArray.empty], .string ByteArray.empty], []⟩ 8 (by kernel_rfl) (by kernel_rfl) (by kernel_rfl) (by kernel_rfl)) ?_
  intro W base args ds gs before hval0 hW hcnd hsz _
  have hval : ∀ (j : Nat) t v, Try.f3.params[j]? = some t → args[j]? = some v → Value.okWide Try.prog W .any base t v := hval0
  have hW' := hW
  obtain ⟨p, q, hA0, hV, rfl, hfz, hnd⟩ := hW
  have hA : DataW.TrodAll enc Try.prog W 0 (fun _ => true) true Try.f3.params.toList args.toList ds p := hA0
  rw [Try.params3] at hA hval
  obtain ⟨v0, vs0, d0, ds0, p0, q0, hargs, rfl, rfl, h0, r0⟩ := trodAll_cons hA
  obtain ⟨v1, vs1, d1, ds1, p1, q1, rfl, rfl, rfl, h1, r1⟩ := trodAll_cons r0
  obtain ⟨rfl, rfl, rfl⟩ := trodAll_nil r1
  obtain rfl : args = #[v0, v1] := by cases args; simp_all
  obtain ⟨rfl, rfl⟩ := trodVars_none hV
  obtain ⟨a0, rfl, rfl, rfl, f0⟩ := open_head (hval 0 24 v0 rfl rfl) h0
  obtain ⟨a1, rfl, rfl, rfl, w1⟩ := open_string Try.underlying9 (hval 1 9 v1 rfl rfl) h1
  clear hA0 hval0
  simp only [List.append_nil] at hW'
  have w0 : a0.Wf := f0.wf (sized_head hsz (j := 0) rfl rfl)
  have z1 : a1.size ≤ 140737488355328 := by
    have hq : a1.data.toList.length ≤ reachBytes := sized_string hsz (j := 1) (t := 9) rfl rfl
    have e : a1.data.toList.length = a1.size := by rw [Array.length_toList]; rfl
    rw [e] at hq
    exact Nat.le_trans hq (by decide)
  refine (walk W a0 w0 a1 z1).mono fun e W' ⟨he, bel⟩ => ?_
  subst he
  exact ⟨_, rfl, _, _, _, [], _, [], hW', (trodAll_cons_mk (shut_bool Try.underlying4 _) trodAll_mk0), (trodAll_cons_mk (shut_head a0 f0) (trodAll_cons_mk (shut_string Try.underlying9 w1) trodAll_mk0)), rfl, bel.frame _, fun h => by cases h⟩

theorem over : Rows.ip4BuildsRow.holds Try.pinned (OpenSpec.ofChange Rows.ip4BuildsSpec) :=
  OpenClaim.holds_of_wide 3 Try.f3 rfl rfl rfl rfl rfl rfl rfl ⟨rfl, rfl, rfl, rfl, rfl⟩ rfl rfl rfl rfl rfl (by kernel_rfl) Try.func3 (by kernel_rfl)
    (of_decide_eq_true (by kernel_rfl)) (by unfold Func.isWrapper; first | (rw [if_pos (by decide +kernel)]; kernel_rfl) | (rw [if_neg (by decide +kernel)]; exact ⟨rfl, rfl⟩))
    (fun os started H enc _ => lifted os started H enc)

theorem proved : Rows.Ip4BuildsSaid := over
#print axioms proved
end Go.Proofs.Ytfppjpcolohmfaa.ip4Builds
