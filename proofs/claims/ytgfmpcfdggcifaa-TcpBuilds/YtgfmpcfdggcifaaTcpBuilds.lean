/- The law TcpBuilds returns true for every header, body and flags: what Build, Right, OptsRight and Name answer is what the reference answers. -/
import Derived.Test.YtgfmpcfdggcifaaRows
import Derived.OpenShut
import Derived.ShutString
import Derived.ChangeOld
import Derived.Below
import Derived.SizedLaws
import Derived.Test.YtgfmpcfdggcifaaTcOpen
import Derived.Test.YtgfmpcfdggcifaaTcRefB
import Derived.Test.YtgfmpcfdggcifaaTcEx
namespace Go.Proofs.Ytgfmpcfdggcifaa.tcpBuilds
open Go.ChangeShapes Go.WideShapes Go.ChangeAt Go.RowKit
open Go.ChangeMaps (open_string shut_string)
set_option linter.unusedVariables false
theorem toptsRight_quiet (s : ByteArray) (w : World) (hs : s.size ≤ 140737488355328) : Calls Try.prog 16 #[.string s] w fun e w' => e = .returned (.bool (optsOk s.data.toList)) ∧ Below w.heap.size w w' :=
  (toptsRight_any s w hs).mono fun _ _ ⟨h1, h2⟩ => ⟨h1, by rw [h2]; exact Below.refl _ _⟩
theorem roptsRight_quiet (s : ByteArray) (w : World) (hs : s.size ≤ 140737488355328) : Calls Try.prog 17 #[.string s] w fun e w' => e = .returned (.bool (optsOk s.data.toList)) ∧ Below w.heap.size w w' :=
  (roptsRight_any s w hs).mono fun _ _ ⟨h1, h2⟩ => ⟨h1, by rw [h2]; exact Below.refl _ _⟩
theorem rname_quiet (f : Int) (w : World) : Calls Try.prog 19 #[.int .i64 f] w fun e w' => e = .returned (.string (nameN f 6)) ∧ Below w.heap.size w w' :=
  (rname_any f w).mono fun _ _ ⟨h1, h2⟩ => ⟨h1, by rw [h2]; exact Below.refl _ _⟩
set_option maxHeartbeats 4000000 in
set_option maxRecDepth 100000 in
theorem walk (w : World) (a0 : Hd) (w0 : a0.Wf) (a1 : ByteArray) (z1 : a1.size ≤ 140737488355328) (a2 : Int) (w2 : (Lit.int .i64 a2).wf = true) :
    Calls Try.prog 3 #[a0.val, .string a1, .int .i64 a2] w fun e w' => e = .returned (.bool true) ∧ Below w.heap.size w w' := by
  have hk0 := kept_new w a0 24
  have hos := w0.opts
  go_enter Try.func3, Try.ntmps3
  go_wp2_with fail
  refine (examples_ok _).mono ?_
  rintro e w1 ⟨rfl, hb1⟩
  have hk1 := hk0.on hb1
  clear hb1 hk0
  have q0 := hk1.at_ 0 (by decide)
  have q1 := hk1.at_ 1 (by decide)
  have q2 := hk1.at_ 2 (by decide)
  have q3 := hk1.at_ 3 (by decide)
  have q4 := hk1.at_ 4 (by decide)
  have q5 := hk1.at_ 5 (by decide)
  have q6 := hk1.at_ 6 (by decide)
  have q7 := hk1.at_ 7 (by decide)
  simp only [hcell] at q0 q1 q2 q3 q4 q5 q6 q7
  have HK := hide hk1
  clear hk1
  go_wp2_with fail
  refine (build_any a0 a1 _ w0 z1).mono ?_
  rintro e w2 ⟨rfl, hb2⟩
  have hk2 := (unhide HK).on hb2
  clear HK hb2
  clear q0 q1 q2 q3 q4 q5 q6 q7
  have q0 := hk2.at_ 0 (by decide)
  have q1 := hk2.at_ 1 (by decide)
  have q2 := hk2.at_ 2 (by decide)
  have q3 := hk2.at_ 3 (by decide)
  have q4 := hk2.at_ 4 (by decide)
  have q5 := hk2.at_ 5 (by decide)
  have q6 := hk2.at_ 6 (by decide)
  have q7 := hk2.at_ 7 (by decide)
  simp only [hcell] at q0 q1 q2 q3 q4 q5 q6 q7
  have HK := hide hk2
  clear hk2
  go_wp2_with fail
  refine (ref_any a0 _).mono ?_
  rintro e w3 ⟨rfl, hb3⟩
  have hk3 := (unhide HK).on hb3
  clear HK hb3
  clear q0 q1 q2 q3 q4 q5 q6 q7
  have HK := hide hk3
  clear hk3
  go_wp2_with fail
  refine (rbuild_any a0 a1 _ w0 z1).mono ?_
  rintro e w4 ⟨rfl, hb4⟩
  have hk4 := (unhide HK).on hb4
  clear HK hb4
  have HK := hide hk4
  clear hk4
  go_wp2_with fail
  generalize buildS a0 a1 = BS at *
  generalize buildE a0 a1 = BE at *
  have hn1 := fun u => name_any a2 u
  have hn2 := fun u => rname_quiet a2 u
  generalize nameN a2 6 = NN at *
  refine wp_region_grow (by kernel_rfl) [.bool true, .bool true, .string BS, .string BS, .bool true, .bool true, .bool true, .int .i64 BE, .int .i64 BE, .bool true, .bool true, .bool true, .agg #[.int .i64 a0.src, .int .i64 a0.dst, .int .u32 a0.seq, .int .u32 a0.ack, .int .i64 a0.flags, .int .i64 a0.win, .int .i64 a0.urg, .string a0.opts], .bool (rightB a0), .agg #[.int .i64 a0.src, .int .i64 a0.dst, .int .u32 a0.seq, .int .u32 a0.ack, .int .i64 a0.flags, .int .i64 a0.win, .int .i64 a0.urg, .string a0.opts], .agg #[.int .i64 a0.src, .int .i64 a0.dst, .int .u32 a0.seq, .int .u32 a0.ack, .int .i64 a0.flags, .int .i64 a0.win, .int .i64 a0.urg, .string a0.opts], .bool (rightB a0), .bool true, .bool true, .bool true, .pointer (some ⟨w.heap.size, 7, none⟩), .string a0.opts, .bool (optsOk a0.opts.data.toList), .pointer (some ⟨w.heap.size, 7, none⟩), .string a0.opts, .bool (optsOk a0.opts.data.toList), .bool true, .bool true, .bool true, .int .i64 a2, .string NN, .int .i64 a2, .string NN, .bool true, .bool true, .bool true] (by kernel_rfl) ?op ?fin
  case op =>
    intro i o bx u ho hbel hS
    match i, ho with
    | 0, ho =>
      obtain rfl := Option.some.inj ho
      have d7 : bx.tmps.getD 7 undef = .bool true := hS.base 7 (by kernel_rfl)
      refine .inl ⟨rfl, ends_value' (c := .bool true) ?_⟩
      simp [execOp, Act.eval, d7]
    | 1, ho =>
      obtain rfl := Option.some.inj ho
      have d28 : bx.tmps.getD 28 undef = .bool true := hS.dep 0 28 (by kernel_rfl) (by kernel_rfl)
      refine .inl ⟨rfl, ends_value' (c := .bool true) ?_⟩
      simp [execOp, Act.eval, d28]
    | 2, ho =>
      obtain rfl := Option.some.inj ho
      have d8 : bx.tmps.getD 8 undef = .string BS := hS.base 8 (by kernel_rfl)
      have gd : bx.tmps.getD 29 undef = .bool true := hS.dep 1 29 (by kernel_rfl) (by kernel_rfl)
      refine .inl ⟨wanted_yes (j := 1) (t := 29) (c := true) (by kernel_rfl) (by kernel_rfl) gd, ends_value' (c := .string BS) ?_⟩
      simp [execOp, Act.eval, d8]
    | 3, ho =>
      obtain rfl := Option.some.inj ho
      have d10 : bx.tmps.getD 10 undef = .string BS := hS.base 10 (by kernel_rfl)
      have gd : bx.tmps.getD 29 undef = .bool true := hS.dep 1 29 (by kernel_rfl) (by kernel_rfl)
      refine .inl ⟨wanted_yes (j := 1) (t := 29) (c := true) (by kernel_rfl) (by kernel_rfl) gd, ends_value' (c := .string BS) ?_⟩
      simp [execOp, Act.eval, d10]
    | 4, ho =>
      obtain rfl := Option.some.inj ho
      have d30 : bx.tmps.getD 30 undef = .string BS := hS.dep 2 30 (by kernel_rfl) (by kernel_rfl)
      have d31 : bx.tmps.getD 31 undef = .string BS := hS.dep 3 31 (by kernel_rfl) (by kernel_rfl)
      have gd : bx.tmps.getD 29 undef = .bool true := hS.dep 1 29 (by kernel_rfl) (by kernel_rfl)
      refine .inl ⟨wanted_yes (j := 1) (t := 29) (c := true) (by kernel_rfl) (by kernel_rfl) gd, ends_value' (c := .bool true) ?_⟩
      simp [Act.eval, d30, d31, go_sem]
    | 5, ho =>
      obtain rfl := Option.some.inj ho
      have d29 : bx.tmps.getD 29 undef = .bool true := hS.dep 1 29 (by kernel_rfl) (by kernel_rfl)
      have d32 : bx.tmps.getD 32 undef = .bool true := hS.dep 4 32 (by kernel_rfl) (by kernel_rfl)
      refine .inl ⟨rfl, ends_value' (c := .bool true) ?_⟩
      simp [Act.eval, d29, d32, go_sem]
    | 6, ho =>
      obtain rfl := Option.some.inj ho
      have d33 : bx.tmps.getD 33 undef = .bool true := hS.dep 5 33 (by kernel_rfl) (by kernel_rfl)
      refine .inl ⟨rfl, ends_value' (c := .bool true) ?_⟩
      simp [execOp, Act.eval, d33]
    | 7, ho =>
      obtain rfl := Option.some.inj ho
      have d9 : bx.tmps.getD 9 undef = .int .i64 BE := hS.base 9 (by kernel_rfl)
      have gd : bx.tmps.getD 34 undef = .bool true := hS.dep 6 34 (by kernel_rfl) (by kernel_rfl)
      refine .inl ⟨wanted_yes (j := 6) (t := 34) (c := true) (by kernel_rfl) (by kernel_rfl) gd, ends_value' (c := .int .i64 BE) ?_⟩
      simp [execOp, Act.eval, d9]
    | 8, ho =>
      obtain rfl := Option.some.inj ho
      have d11 : bx.tmps.getD 11 undef = .int .i64 BE := hS.base 11 (by kernel_rfl)
      have gd : bx.tmps.getD 34 undef = .bool true := hS.dep 6 34 (by kernel_rfl) (by kernel_rfl)
      refine .inl ⟨wanted_yes (j := 6) (t := 34) (c := true) (by kernel_rfl) (by kernel_rfl) gd, ends_value' (c := .int .i64 BE) ?_⟩
      simp [execOp, Act.eval, d11]
    | 9, ho =>
      obtain rfl := Option.some.inj ho
      have d35 : bx.tmps.getD 35 undef = .int .i64 BE := hS.dep 7 35 (by kernel_rfl) (by kernel_rfl)
      have d36 : bx.tmps.getD 36 undef = .int .i64 BE := hS.dep 8 36 (by kernel_rfl) (by kernel_rfl)
      have gd : bx.tmps.getD 34 undef = .bool true := hS.dep 6 34 (by kernel_rfl) (by kernel_rfl)
      refine .inl ⟨wanted_yes (j := 6) (t := 34) (c := true) (by kernel_rfl) (by kernel_rfl) gd, ends_value' (c := .bool true) ?_⟩
      simp [Act.eval, d35, d36, go_sem]
    | 10, ho =>
      obtain rfl := Option.some.inj ho
      have d34 : bx.tmps.getD 34 undef = .bool true := hS.dep 6 34 (by kernel_rfl) (by kernel_rfl)
      have d37 : bx.tmps.getD 37 undef = .bool true := hS.dep 9 37 (by kernel_rfl) (by kernel_rfl)
      refine .inl ⟨rfl, ends_value' (c := .bool true) ?_⟩
      simp [Act.eval, d34, d37, go_sem]
    | 11, ho =>
      obtain rfl := Option.some.inj ho
      have d38 : bx.tmps.getD 38 undef = .bool true := hS.dep 10 38 (by kernel_rfl) (by kernel_rfl)
      refine .inl ⟨rfl, ends_value' (c := .bool true) ?_⟩
      simp [execOp, Act.eval, d38]
    | 12, ho =>
      obtain rfl := Option.some.inj ho
      have d3 : bx.tmps.getD 3 undef = .pointer (some ⟨w.heap.size, 0, none⟩) := hS.base 3 (by kernel_rfl)
      have gd : bx.tmps.getD 39 undef = .bool true := hS.dep 11 39 (by kernel_rfl) (by kernel_rfl)
      have g := (unhide HK).on' hbel
      have g0 := g.at_ 0 (by decide)
      have g1 := g.at_ 1 (by decide)
      have g2 := g.at_ 2 (by decide)
      have g3 := g.at_ 3 (by decide)
      have g4 := g.at_ 4 (by decide)
      have g5 := g.at_ 5 (by decide)
      have g6 := g.at_ 6 (by decide)
      have g7 := g.at_ 7 (by decide)
      simp only [hcell] at g0 g1 g2 g3 g4 g5 g6 g7
      refine .inl ⟨wanted_yes (j := 11) (t := 39) (c := true) (by kernel_rfl) (by kernel_rfl) gd, ends_value' (c := .agg #[.int .i64 a0.src, .int .i64 a0.dst, .int .u32 a0.seq, .int .u32 a0.ack, .int .i64 a0.flags, .int .i64 a0.win, .int .i64 a0.urg, .string a0.opts]) ?_⟩
      simp [Act.eval, d3, go_sem, g0, g1, g2, g3, g4, g5, g6, g7]
    | 13, ho =>
      obtain rfl := Option.some.inj ho
      have d40 : bx.tmps.getD 40 undef = .agg #[.int .i64 a0.src, .int .i64 a0.dst, .int .u32 a0.seq, .int .u32 a0.ack, .int .i64 a0.flags, .int .i64 a0.win, .int .i64 a0.urg, .string a0.opts] := hS.dep 12 40 (by kernel_rfl) (by kernel_rfl)
      have gd : bx.tmps.getD 39 undef = .bool true := hS.dep 11 39 (by kernel_rfl) (by kernel_rfl)
      refine .inl ⟨wanted_yes (j := 11) (t := 39) (c := true) (by kernel_rfl) (by kernel_rfl) gd, ends_call' (c := .bool (rightB a0)) (f := 14) (args := #[a0.val]) ?_ (tright_any a0 u w0)⟩
      simp [Act.eval, d40, go_sem]
    | 14, ho =>
      obtain rfl := Option.some.inj ho
      have d3 : bx.tmps.getD 3 undef = .pointer (some ⟨w.heap.size, 0, none⟩) := hS.base 3 (by kernel_rfl)
      have gd : bx.tmps.getD 39 undef = .bool true := hS.dep 11 39 (by kernel_rfl) (by kernel_rfl)
      have g := (unhide HK).on' hbel
      have g0 := g.at_ 0 (by decide)
      have g1 := g.at_ 1 (by decide)
      have g2 := g.at_ 2 (by decide)
      have g3 := g.at_ 3 (by decide)
      have g4 := g.at_ 4 (by decide)
      have g5 := g.at_ 5 (by decide)
      have g6 := g.at_ 6 (by decide)
      have g7 := g.at_ 7 (by decide)
      simp only [hcell] at g0 g1 g2 g3 g4 g5 g6 g7
      refine .inl ⟨wanted_yes (j := 11) (t := 39) (c := true) (by kernel_rfl) (by kernel_rfl) gd, ends_value' (c := .agg #[.int .i64 a0.src, .int .i64 a0.dst, .int .u32 a0.seq, .int .u32 a0.ack, .int .i64 a0.flags, .int .i64 a0.win, .int .i64 a0.urg, .string a0.opts]) ?_⟩
      simp [Act.eval, d3, go_sem, g0, g1, g2, g3, g4, g5, g6, g7]
    | 15, ho =>
      obtain rfl := Option.some.inj ho
      have d42 : bx.tmps.getD 42 undef = .agg #[.int .i64 a0.src, .int .i64 a0.dst, .int .u32 a0.seq, .int .u32 a0.ack, .int .i64 a0.flags, .int .i64 a0.win, .int .i64 a0.urg, .string a0.opts] := hS.dep 14 42 (by kernel_rfl) (by kernel_rfl)
      have gd : bx.tmps.getD 39 undef = .bool true := hS.dep 11 39 (by kernel_rfl) (by kernel_rfl)
      refine .inl ⟨wanted_yes (j := 11) (t := 39) (c := true) (by kernel_rfl) (by kernel_rfl) gd, ends_call' (c := .agg #[.int .i64 a0.src, .int .i64 a0.dst, .int .u32 a0.seq, .int .u32 a0.ack, .int .i64 a0.flags, .int .i64 a0.win, .int .i64 a0.urg, .string a0.opts]) (f := 13) (args := #[a0.val]) ?_ (ref_any a0 u)⟩
      simp [Act.eval, d42, go_sem]
    | 16, ho =>
      obtain rfl := Option.some.inj ho
      have d43 : bx.tmps.getD 43 undef = .agg #[.int .i64 a0.src, .int .i64 a0.dst, .int .u32 a0.seq, .int .u32 a0.ack, .int .i64 a0.flags, .int .i64 a0.win, .int .i64 a0.urg, .string a0.opts] := hS.dep 15 43 (by kernel_rfl) (by kernel_rfl)
      have gd : bx.tmps.getD 39 undef = .bool true := hS.dep 11 39 (by kernel_rfl) (by kernel_rfl)
      refine .inl ⟨wanted_yes (j := 11) (t := 39) (c := true) (by kernel_rfl) (by kernel_rfl) gd, ends_call' (c := .bool (rightB a0)) (f := 15) (args := #[a0.val]) ?_ (rright_any a0 u w0)⟩
      simp [Act.eval, d43, go_sem]
    | 17, ho =>
      obtain rfl := Option.some.inj ho
      have d41 : bx.tmps.getD 41 undef = .bool (rightB a0) := hS.dep 13 41 (by kernel_rfl) (by kernel_rfl)
      have d44 : bx.tmps.getD 44 undef = .bool (rightB a0) := hS.dep 16 44 (by kernel_rfl) (by kernel_rfl)
      have gd : bx.tmps.getD 39 undef = .bool true := hS.dep 11 39 (by kernel_rfl) (by kernel_rfl)
      refine .inl ⟨wanted_yes (j := 11) (t := 39) (c := true) (by kernel_rfl) (by kernel_rfl) gd, ends_value' (c := .bool true) ?_⟩
      simp [Act.eval, d41, d44, go_sem]
    | 18, ho =>
      obtain rfl := Option.some.inj ho
      have d39 : bx.tmps.getD 39 undef = .bool true := hS.dep 11 39 (by kernel_rfl) (by kernel_rfl)
      have d45 : bx.tmps.getD 45 undef = .bool true := hS.dep 17 45 (by kernel_rfl) (by kernel_rfl)
      refine .inl ⟨rfl, ends_value' (c := .bool true) ?_⟩
      simp [Act.eval, d39, d45, go_sem]
    | 19, ho =>
      obtain rfl := Option.some.inj ho
      have d46 : bx.tmps.getD 46 undef = .bool true := hS.dep 18 46 (by kernel_rfl) (by kernel_rfl)
      refine .inl ⟨rfl, ends_value' (c := .bool true) ?_⟩
      simp [execOp, Act.eval, d46]
    | 20, ho =>
      obtain rfl := Option.some.inj ho
      have d3 : bx.tmps.getD 3 undef = .pointer (some ⟨w.heap.size, 0, none⟩) := hS.base 3 (by kernel_rfl)
      have gd : bx.tmps.getD 47 undef = .bool true := hS.dep 19 47 (by kernel_rfl) (by kernel_rfl)
      refine .inl ⟨wanted_yes (j := 19) (t := 47) (c := true) (by kernel_rfl) (by kernel_rfl) gd, ends_value' (c := .pointer (some ⟨w.heap.size, 7, none⟩)) ?_⟩
      simp [Act.eval, d3, go_sem]
    | 21, ho =>
      obtain rfl := Option.some.inj ho
      have d48 : bx.tmps.getD 48 undef = .pointer (some ⟨w.heap.size, 7, none⟩) := hS.dep 20 48 (by kernel_rfl) (by kernel_rfl)
      have gd : bx.tmps.getD 47 undef = .bool true := hS.dep 19 47 (by kernel_rfl) (by kernel_rfl)
      have hl := ((unhide HK).on' hbel).at_ 7 (by decide)
      refine .inl ⟨wanted_yes (j := 19) (t := 47) (c := true) (by kernel_rfl) (by kernel_rfl) gd, ends_value' (c := .string a0.opts) ?_⟩
      simp [Act.eval, d48, go_sem, hl, hcell]
    | 22, ho =>
      obtain rfl := Option.some.inj ho
      have d49 : bx.tmps.getD 49 undef = .string a0.opts := hS.dep 21 49 (by kernel_rfl) (by kernel_rfl)
      have gd : bx.tmps.getD 47 undef = .bool true := hS.dep 19 47 (by kernel_rfl) (by kernel_rfl)
      refine .inl ⟨wanted_yes (j := 19) (t := 47) (c := true) (by kernel_rfl) (by kernel_rfl) gd, ends_call' (c := .bool (optsOk a0.opts.data.toList)) (f := 16) (args := #[.string a0.opts]) ?_ (toptsRight_quiet a0.opts u hos)⟩
      simp [Act.eval, d49, go_sem]
    | 23, ho =>
      obtain rfl := Option.some.inj ho
      have d3 : bx.tmps.getD 3 undef = .pointer (some ⟨w.heap.size, 0, none⟩) := hS.base 3 (by kernel_rfl)
      have gd : bx.tmps.getD 47 undef = .bool true := hS.dep 19 47 (by kernel_rfl) (by kernel_rfl)
      refine .inl ⟨wanted_yes (j := 19) (t := 47) (c := true) (by kernel_rfl) (by kernel_rfl) gd, ends_value' (c := .pointer (some ⟨w.heap.size, 7, none⟩)) ?_⟩
      simp [Act.eval, d3, go_sem]
    | 24, ho =>
      obtain rfl := Option.some.inj ho
      have d51 : bx.tmps.getD 51 undef = .pointer (some ⟨w.heap.size, 7, none⟩) := hS.dep 23 51 (by kernel_rfl) (by kernel_rfl)
      have gd : bx.tmps.getD 47 undef = .bool true := hS.dep 19 47 (by kernel_rfl) (by kernel_rfl)
      have hl := ((unhide HK).on' hbel).at_ 7 (by decide)
      refine .inl ⟨wanted_yes (j := 19) (t := 47) (c := true) (by kernel_rfl) (by kernel_rfl) gd, ends_value' (c := .string a0.opts) ?_⟩
      simp [Act.eval, d51, go_sem, hl, hcell]
    | 25, ho =>
      obtain rfl := Option.some.inj ho
      have d52 : bx.tmps.getD 52 undef = .string a0.opts := hS.dep 24 52 (by kernel_rfl) (by kernel_rfl)
      have gd : bx.tmps.getD 47 undef = .bool true := hS.dep 19 47 (by kernel_rfl) (by kernel_rfl)
      refine .inl ⟨wanted_yes (j := 19) (t := 47) (c := true) (by kernel_rfl) (by kernel_rfl) gd, ends_call' (c := .bool (optsOk a0.opts.data.toList)) (f := 17) (args := #[.string a0.opts]) ?_ (roptsRight_quiet a0.opts u hos)⟩
      simp [Act.eval, d52, go_sem]
    | 26, ho =>
      obtain rfl := Option.some.inj ho
      have d50 : bx.tmps.getD 50 undef = .bool (optsOk a0.opts.data.toList) := hS.dep 22 50 (by kernel_rfl) (by kernel_rfl)
      have d53 : bx.tmps.getD 53 undef = .bool (optsOk a0.opts.data.toList) := hS.dep 25 53 (by kernel_rfl) (by kernel_rfl)
      have gd : bx.tmps.getD 47 undef = .bool true := hS.dep 19 47 (by kernel_rfl) (by kernel_rfl)
      refine .inl ⟨wanted_yes (j := 19) (t := 47) (c := true) (by kernel_rfl) (by kernel_rfl) gd, ends_value' (c := .bool true) ?_⟩
      simp [Act.eval, d50, d53, go_sem]
    | 27, ho =>
      obtain rfl := Option.some.inj ho
      have d47 : bx.tmps.getD 47 undef = .bool true := hS.dep 19 47 (by kernel_rfl) (by kernel_rfl)
      have d54 : bx.tmps.getD 54 undef = .bool true := hS.dep 26 54 (by kernel_rfl) (by kernel_rfl)
      refine .inl ⟨rfl, ends_value' (c := .bool true) ?_⟩
      simp [Act.eval, d47, d54, go_sem]
    | 28, ho =>
      obtain rfl := Option.some.inj ho
      have d55 : bx.tmps.getD 55 undef = .bool true := hS.dep 27 55 (by kernel_rfl) (by kernel_rfl)
      refine .inl ⟨rfl, ends_value' (c := .bool true) ?_⟩
      simp [execOp, Act.eval, d55]
    | 29, ho =>
      obtain rfl := Option.some.inj ho
      have d2 : bx.tmps.getD 2 undef = .int .i64 a2 := hS.base 2 (by kernel_rfl)
      have gd : bx.tmps.getD 56 undef = .bool true := hS.dep 28 56 (by kernel_rfl) (by kernel_rfl)
      refine .inl ⟨wanted_yes (j := 28) (t := 56) (c := true) (by kernel_rfl) (by kernel_rfl) gd, ends_value' (c := .int .i64 a2) ?_⟩
      simp [execOp, Act.eval, d2]
    | 30, ho =>
      obtain rfl := Option.some.inj ho
      have d57 : bx.tmps.getD 57 undef = .int .i64 a2 := hS.dep 29 57 (by kernel_rfl) (by kernel_rfl)
      have gd : bx.tmps.getD 56 undef = .bool true := hS.dep 28 56 (by kernel_rfl) (by kernel_rfl)
      refine .inl ⟨wanted_yes (j := 28) (t := 56) (c := true) (by kernel_rfl) (by kernel_rfl) gd, ends_call' (c := .string NN) (f := 18) (args := #[.int .i64 a2]) ?_ (hn1 u)⟩
      simp [Act.eval, d57, go_sem]
    | 31, ho =>
      obtain rfl := Option.some.inj ho
      have d2 : bx.tmps.getD 2 undef = .int .i64 a2 := hS.base 2 (by kernel_rfl)
      have gd : bx.tmps.getD 56 undef = .bool true := hS.dep 28 56 (by kernel_rfl) (by kernel_rfl)
      refine .inl ⟨wanted_yes (j := 28) (t := 56) (c := true) (by kernel_rfl) (by kernel_rfl) gd, ends_value' (c := .int .i64 a2) ?_⟩
      simp [execOp, Act.eval, d2]
    | 32, ho =>
      obtain rfl := Option.some.inj ho
      have d59 : bx.tmps.getD 59 undef = .int .i64 a2 := hS.dep 31 59 (by kernel_rfl) (by kernel_rfl)
      have gd : bx.tmps.getD 56 undef = .bool true := hS.dep 28 56 (by kernel_rfl) (by kernel_rfl)
      refine .inl ⟨wanted_yes (j := 28) (t := 56) (c := true) (by kernel_rfl) (by kernel_rfl) gd, ends_call' (c := .string NN) (f := 19) (args := #[.int .i64 a2]) ?_ (hn2 u)⟩
      simp [Act.eval, d59, go_sem]
    | 33, ho =>
      obtain rfl := Option.some.inj ho
      have d58 : bx.tmps.getD 58 undef = .string NN := hS.dep 30 58 (by kernel_rfl) (by kernel_rfl)
      have d60 : bx.tmps.getD 60 undef = .string NN := hS.dep 32 60 (by kernel_rfl) (by kernel_rfl)
      have gd : bx.tmps.getD 56 undef = .bool true := hS.dep 28 56 (by kernel_rfl) (by kernel_rfl)
      refine .inl ⟨wanted_yes (j := 28) (t := 56) (c := true) (by kernel_rfl) (by kernel_rfl) gd, ends_value' (c := .bool true) ?_⟩
      simp [Act.eval, d58, d60, go_sem]
    | 34, ho =>
      obtain rfl := Option.some.inj ho
      have d56 : bx.tmps.getD 56 undef = .bool true := hS.dep 28 56 (by kernel_rfl) (by kernel_rfl)
      have d61 : bx.tmps.getD 61 undef = .bool true := hS.dep 33 61 (by kernel_rfl) (by kernel_rfl)
      refine .inl ⟨rfl, ends_value' (c := .bool true) ?_⟩
      simp [Act.eval, d56, d61, go_sem]
    | 35, ho =>
      obtain rfl := Option.some.inj ho
      have d62 : bx.tmps.getD 62 undef = .bool true := hS.dep 34 62 (by kernel_rfl) (by kernel_rfl)
      refine .inl ⟨rfl, ends_value' (c := .bool true) ?_⟩
      simp [execOp, Act.eval, d62]
    | n + 36, ho => exact absurd ho (by simp)
  case fin =>
    intro u hbel
    simp [putAll, dstAt, Act.put]
    have hk9 := (unhide HK).on' hbel
    go_wp2_with fail
    go_ret
    exact ⟨rfl, hk9.below⟩

theorem own : ownKnob Try.prog.godebug = none := by kernel_rfl
set_option maxRecDepth 100000 in
theorem lifted (os : Os) (started : os.Started) (H : Type) (enc : TypeId × Value → H) :
    ReturnsInHanded {} Try.checked os 3 .any (Rows.tcpBuildsSpec.pre6 enc Try.prog Try.f3 Rows.tcpBuildsRow.domain false) (Rows.tcpBuildsSpec.post enc Try.prog Try.f3 false true false false) := by
  refine returnsInHanded_of_change_sized (C := Try.checked) own started (by kernel_rfl) Try.func3
    (ChangeSpec.witness6 (enc := enc) (C := Try.checked) false ⟨#[], #[.agg #[.int .i64 0, .int .i64 0, .int .u32 0, .int .u32 0, .int .i64 0, .int .i64 0, .int .i64 0, .string ByteArray.empty], .string ByteArray.empty, .int .i64 0], []⟩ 8 (by kernel_rfl) (by kernel_rfl) (by kernel_rfl) (by kernel_rfl)) ?_
  intro W base args ds gs before hval0 hW hcnd hsz _
  have hval : ∀ (j : Nat) t v, Try.f3.params[j]? = some t → args[j]? = some v → Value.okWide Try.prog W .any base t v := hval0
  have hW' := hW
  obtain ⟨p, q, hA0, hV, rfl, hfz, hnd⟩ := hW
  have hA : DataW.TrodAll enc Try.prog W 0 (fun _ => true) true Try.f3.params.toList args.toList ds p := hA0
  rw [Try.params3] at hA hval
  obtain ⟨v0, vs0, d0, ds0, p0, q0, hargs, rfl, rfl, h0, r0⟩ := trodAll_cons hA
  obtain ⟨v1, vs1, d1, ds1, p1, q1, rfl, rfl, rfl, h1, r1⟩ := trodAll_cons r0
  obtain ⟨v2, vs2, d2, ds2, p2, q2, rfl, rfl, rfl, h2, r2⟩ := trodAll_cons r1
  obtain ⟨rfl, rfl, rfl⟩ := trodAll_nil r2
  obtain rfl : args = #[v0, v1, v2] := by cases args; simp_all
  obtain ⟨rfl, rfl⟩ := trodVars_none hV
  obtain ⟨a0, rfl, rfl, rfl, f0⟩ := open_head (hval 0 24 v0 rfl rfl) h0
  obtain ⟨a1, rfl, rfl, rfl, w1⟩ := open_string Try.underlying9 (hval 1 9 v1 rfl rfl) h1
  obtain ⟨a2, rfl, rfl, rfl, w2⟩ := open_int Try.underlying3 (hval 2 3 v2 rfl rfl) h2
  clear hA0 hval0
  simp only [List.append_nil] at hW'
  have w0 : a0.Wf := f0.wf (sized_head hsz (j := 0) rfl rfl)
  have z1 : a1.size ≤ 140737488355328 := by
    have hq : a1.data.toList.length ≤ reachBytes := sized_string hsz (j := 1) (t := 9) rfl rfl
    have e : a1.data.toList.length = a1.size := by rw [Array.length_toList]; rfl
    rw [e] at hq
    exact Nat.le_trans hq (by decide)
  refine (walk W a0 w0 a1 z1 a2 w2).mono fun e W' ⟨he, bel⟩ => ?_
  subst he
  exact ⟨_, rfl, _, _, _, [], _, [], hW', (trodAll_cons_mk (shut_bool Try.underlying4 _) trodAll_mk0), (trodAll_cons_mk (shut_head a0 f0) (trodAll_cons_mk (shut_string Try.underlying9 w1) (trodAll_cons_mk (shut_int Try.underlying3 w2) trodAll_mk0))), rfl, bel.frame _, fun h => by cases h⟩

theorem over : Rows.tcpBuildsRow.holds Try.pinned (OpenSpec.ofChange Rows.tcpBuildsSpec) :=
  OpenClaim.holds_of_wide 3 Try.f3 rfl rfl rfl rfl rfl rfl rfl ⟨rfl, rfl, rfl, rfl, rfl⟩ rfl rfl rfl rfl rfl (by kernel_rfl) Try.func3 (by kernel_rfl)
    (of_decide_eq_true (by kernel_rfl)) (by unfold Func.isWrapper; first | (rw [if_pos (by decide +kernel)]; kernel_rfl) | (rw [if_neg (by decide +kernel)]; exact ⟨rfl, rfl⟩))
    (fun os started H enc _ => lifted os started H enc)

theorem proved : Rows.TcpBuildsSaid := over
#print axioms proved
end Go.Proofs.Ytgfmpcfdggcifaa.tcpBuilds
