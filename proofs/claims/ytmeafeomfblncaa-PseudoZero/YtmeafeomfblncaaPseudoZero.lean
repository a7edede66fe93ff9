/- The law PseudoZero returns true for every two addresses, every two ports and every body, and changes nothing that was there before; no condition but the form's own. -/
import Derived.Test.YtmeafeomfblncaaRows
import Derived.OpenShut
import Derived.ShutString
import Derived.ChangeOld
import Derived.Below
import Derived.SizedLaws
import Derived.Test.YtmeafeomfblncaaPsLaw
import Derived.Test.YtmeafeomfblncaaIpGrow
namespace Go.Proofs.Ytmeafeomfblncaa.pseudoZero
open Go.ChangeShapes Go.WideShapes Go.ChangeAt Go.RowKit
open Go.ChangeMaps (open_string shut_string)
set_option linter.unusedVariables false
set_option maxHeartbeats 4000000 in
set_option maxRecDepth 100000 in
theorem walk (w : World) (a0 : Int) (a1 : Int) (a2 : Int) (a3 : Int) (a4 : ByteArray) (w0 : (Lit.int .u32 a0).wf = true) (w1 : (Lit.int .u32 a1).wf = true) (w2 : (Lit.int .u16 a2).wf = true) (w3 : (Lit.int .u16 a3).wf = true) (z4 : a4.size ≤ 140737488355328) :
    Calls Try.prog 6 #[.int .u32 a0, .int .u32 a1, .int .u16 a2, .int .u16 a3, .string a4] w fun e w' => e = .returned (.bool true) ∧ Below w.heap.size w w' := by
  obtain ⟨s0, s1⟩ := bounds_u32 w0
  obtain ⟨d0, d1⟩ := bounds_u32 w1
  obtain ⟨x0, x1⟩ := bounds_u16 w2
  obtain ⟨y0, y1⟩ := bounds_u16 w3
  obtain ⟨m, hmin⟩ : ∃ m : Nat, min (a4.size : Int) 100 = m := ⟨min a4.size 100, by omega⟩
  have hm1 : m ≤ 100 := by omega
  have hm2 : m ≤ a4.size := by omega
  have hm3 : (m : Int) ≤ a4.size := by omega
  have hBs : (a4.extract 0 m).size = m := by rw [Oct.ext_size _ _ _ hm2]; rfl
  generalize hB : a4.extract 0 m = B at *
  have hS : U32 a0 := ⟨s0, by omega⟩
  have hD : U32 a1 := ⟨d0, by omega⟩
  have g : Dg a0 a1 a2 a3 B := ⟨(inP_iff _).2 ⟨x0, x1⟩, (inP_iff _).2 ⟨y0, y1⟩, by omega, hS, hD⟩
  have hbe := buildE_of g.pa g.pb g.size
  have HBC : Hid (∀ u, Calls Try.prog 18 #[.int .i64 a2, .int .i64 a3, .string B] u fun e u' => e = .returned (.tuple #[.string (built a2 a3 B), .int .i64 0]) ∧ Below u.heap.size u u') := fun u => by
    have := build_any a2 a3 B u (by omega)
    rw [hbe, buildS_of hbe] at this
    exact this
  have hz := built_size g.pa g.pb g.size
  have ht := g.tsize
  have c0 := dgC_lo a0 a1 a2 a3 B
  have c1 := dgC_hi a0 a1 a2 a3 B
  have hc := dgC_ne a0 a1 a2 a3 B
  have HC := hide (fun u => pcheck_any 17 a0 a1 (built a2 a3 B) u ⟨by decide, by decide⟩ hS hD (by omega))
  have HF := hide (fun u => pfill_any 17 a0 a1 (built a2 a3 B) u ⟨by decide, by decide⟩ hS hD (by omega))
  have HC2 := hide (fun u => pcheck_any 17 a0 a1 (fillS 17 a0 a1 (built a2 a3 B)) u ⟨by decide, by decide⟩ hS hD (by omega))
  rw [g.chkS.1, g.chkS.2] at HC
  rw [g.fill.1] at HF
  rw [g.chkT.1, g.chkT.2] at HC2
  have hno := fun t => g.none (t := t)
  have hi := fun t => g.hi (t := t)
  have lo := fun t => g.lo (t := t)
  generalize hT : fillS 17 a0 a1 (built a2 a3 B) = T at *
  have hno := hno T rfl
  have hi := hi T rfl
  have lo := lo T rfl
  have k6 : 6 < T.size := by omega
  have k7 : 7 < T.size := by omega
  have i6 := hi k6
  have i7 := lo k7
  have hT8 : (8 : Int) ≤ T.size := by omega
  have hTm : (T.size : Int) ≤ 108 := by omega
  have hd8 : decide ((T.size : Int) < 8) = false := by simp; omega
  have f6 : (T.extract 0 6).size ≤ 6 := by rw [ByteArray.size_extract]; omega
  have f8 : (T.extract 8 T.size).size ≤ 108 := by rw [ByteArray.size_extract]; omega
  generalize hP6 : T.extract 0 6 = P6 at *
  generalize hP8 : T.extract 8 T.size = P8 at *
  have r1 := add_run P6 ⟨#[0, 0]⟩ (by omega) (by decide)
  have z2 : (P6 ++ (⟨#[0, 0]⟩ : ByteArray)).size ≤ 8 := by rw [ByteArray.size_append]; have : (⟨#[0, 0]⟩ : ByteArray).size = 2 := rfl; omega
  generalize P6 ++ (⟨#[0, 0]⟩ : ByteArray) = P7 at *
  have r2 := add_run P7 P8 (by omega) (by omega)
  have z3 : (P7 ++ P8).size ≤ 200 := by rw [ByteArray.size_append]; omega
  generalize P7 ++ P8 = NO at *
  have HV := hide (fun u => pverify_any 17 a0 a1 NO u ⟨by decide, by decide⟩ hS hD (by omega))
  rw [hno] at HV
  generalize dgC a0 a1 a2 a3 B = c at *
  generalize built a2 a3 B = S at *
  have jb := join_bytes c c0 c1
  have kc := Oct.wraps_i64 c c0 (by omega)
  have kh := Oct.wraps_i64 (c / 256) (by omega) (by omega)
  have kl := Oct.wraps_i64 (c % 256) (by omega) (by omega)
  have ks := Oct.wraps_i64 (c / 256 * 256) (by omega) (by omega)
  clear hno hi lo g hbe hz ht hT hS hD s0 s1 d0 d1 w0 w1 w2 w3 f6 f8 z2 z3 hm1 hm2 hBs
  have HX := hide (examples_ok w)
  have K := hide (And.intro kc (And.intro kh (And.intro kl (And.intro ks jb))))
  clear kc kh kl ks jb
  go_enter Try.func6, Try.ntmps6
  go_wp2_with fail
  refine (unhide HX).mono ?_
  rintro e v1 ⟨rfl, hq⟩
  have HB1 := hide hq
  clear hq
  go_wp2_with fail
  refine (unhide HBC _).mono ?_
  rintro e v2 ⟨rfl, hq⟩
  have HB2 := hide (Below.then (unhide HB1) hq)
  clear hq
  go_wp2_with fail
  refine (unhide HC _).mono ?_
  rintro e v3 ⟨rfl, hq⟩
  have HB3 := hide (Below.then (unhide HB2) hq)
  clear hq
  go_wp2_with fail
  refine (unhide HF _).mono ?_
  rintro e v4 ⟨rfl, hq⟩
  have HB4 := hide (Below.then (unhide HB3) hq)
  clear hq
  go_wp2_with fail
  go_quiet (fail)
  go_wp2_with fail
  refine (unhide HC2 _).mono ?_
  rintro e v5 ⟨rfl, hq⟩
  have HB5 := hide (Below.then (below_drewN (unhide HB4) _) hq)
  clear hq
  go_wp2_with fail
  obtain ⟨kc, kh, kl, ks, jb⟩ := unhide K
  have n6 : ¬ ((T.size : Int) ≤ 6) := by omega
  have n7 : ¬ ((T.size : Int) ≤ 7) := by omega
  refine wp_region_grow (by kernel_rfl) [.bool true, .bool true, .int .u16 c, .bool true, .bool true, .bool true, .int .u16 c, .int .u16 c, .bool true, .bool true, .bool true, .bool true, .bool true, .bool true, .int .u32 a0, .int .u32 a1, .string NO, .int .i64 0, .bool true, .bool true, .bool true, .string T, .int .u8 (c / 256), .int .i64 (c / 256), .int .i64 (c / 256 * 256), .string T, .int .u8 (c % 256), .int .i64 (c % 256), .int .i64 c, .int .u16 c, .int .i64 c, .bool true, .bool true, .bool true] (by kernel_rfl) ?op ?fin
  case op =>
    intro i o bx u ho hbel hS
    match i, ho with
    | 0, ho =>
      obtain rfl := Option.some.inj ho
      have d11 : bx.tmps.getD 11 undef = .bool true := hS.base 11 (by kernel_rfl)
      refine .inl ⟨rfl, ends_value' (c := .bool true) ?_⟩
      simp [execOp, Act.eval, d11]
    | 1, ho =>
      obtain rfl := Option.some.inj ho
      have d79 : bx.tmps.getD 79 undef = .bool true := hS.dep 0 79 (by kernel_rfl) (by kernel_rfl)
      refine .inl ⟨rfl, ends_value' (c := .bool true) ?_⟩
      simp [execOp, Act.eval, d79]
    | 2, ho =>
      obtain rfl := Option.some.inj ho
      have d14 : bx.tmps.getD 14 undef = .int .u16 c := hS.base 14 (by kernel_rfl)
      have gd : bx.tmps.getD 80 undef = .bool true := hS.dep 1 80 (by kernel_rfl) (by kernel_rfl)
      refine .inl ⟨wanted_yes (j := 1) (t := 80) (c := true) (by kernel_rfl) (by kernel_rfl) gd, ends_value' (c := .int .u16 c) ?_⟩
      simp [execOp, Act.eval, d14]
    | 3, ho =>
      obtain rfl := Option.some.inj ho
      have d81 : bx.tmps.getD 81 undef = .int .u16 c := hS.dep 2 81 (by kernel_rfl) (by kernel_rfl)
      have gd : bx.tmps.getD 80 undef = .bool true := hS.dep 1 80 (by kernel_rfl) (by kernel_rfl)
      refine .inl ⟨wanted_yes (j := 1) (t := 80) (c := true) (by kernel_rfl) (by kernel_rfl) gd, ends_value' (c := .bool true) ?_⟩
      simp [Act.eval, d81, go_sem, hc]
    | 4, ho =>
      obtain rfl := Option.some.inj ho
      have d80 : bx.tmps.getD 80 undef = .bool true := hS.dep 1 80 (by kernel_rfl) (by kernel_rfl)
      have d82 : bx.tmps.getD 82 undef = .bool true := hS.dep 3 82 (by kernel_rfl) (by kernel_rfl)
      refine .inl ⟨rfl, ends_value' (c := .bool true) ?_⟩
      simp [Act.eval, d80, d82, go_sem]
    | 5, ho =>
      obtain rfl := Option.some.inj ho
      have d83 : bx.tmps.getD 83 undef = .bool true := hS.dep 4 83 (by kernel_rfl) (by kernel_rfl)
      refine .inl ⟨rfl, ends_value' (c := .bool true) ?_⟩
      simp [execOp, Act.eval, d83]
    | 6, ho =>
      obtain rfl := Option.some.inj ho
      have d19 : bx.tmps.getD 19 undef = .int .u16 c := hS.base 19 (by kernel_rfl)
      have gd : bx.tmps.getD 84 undef = .bool true := hS.dep 5 84 (by kernel_rfl) (by kernel_rfl)
      refine .inl ⟨wanted_yes (j := 5) (t := 84) (c := true) (by kernel_rfl) (by kernel_rfl) gd, ends_value' (c := .int .u16 c) ?_⟩
      simp [execOp, Act.eval, d19]
    | 7, ho =>
      obtain rfl := Option.some.inj ho
      have d14 : bx.tmps.getD 14 undef = .int .u16 c := hS.base 14 (by kernel_rfl)
      have gd : bx.tmps.getD 84 undef = .bool true := hS.dep 5 84 (by kernel_rfl) (by kernel_rfl)
      refine .inl ⟨wanted_yes (j := 5) (t := 84) (c := true) (by kernel_rfl) (by kernel_rfl) gd, ends_value' (c := .int .u16 c) ?_⟩
      simp [execOp, Act.eval, d14]
    | 8, ho =>
      obtain rfl := Option.some.inj ho
      have d85 : bx.tmps.getD 85 undef = .int .u16 c := hS.dep 6 85 (by kernel_rfl) (by kernel_rfl)
      have d86 : bx.tmps.getD 86 undef = .int .u16 c := hS.dep 7 86 (by kernel_rfl) (by kernel_rfl)
      have gd : bx.tmps.getD 84 undef = .bool true := hS.dep 5 84 (by kernel_rfl) (by kernel_rfl)
      refine .inl ⟨wanted_yes (j := 5) (t := 84) (c := true) (by kernel_rfl) (by kernel_rfl) gd, ends_value' (c := .bool true) ?_⟩
      simp [Act.eval, d85, d86, go_sem]
    | 9, ho =>
      obtain rfl := Option.some.inj ho
      have d84 : bx.tmps.getD 84 undef = .bool true := hS.dep 5 84 (by kernel_rfl) (by kernel_rfl)
      have d87 : bx.tmps.getD 87 undef = .bool true := hS.dep 8 87 (by kernel_rfl) (by kernel_rfl)
      refine .inl ⟨rfl, ends_value' (c := .bool true) ?_⟩
      simp [Act.eval, d84, d87, go_sem]
    | 10, ho =>
      obtain rfl := Option.some.inj ho
      have d88 : bx.tmps.getD 88 undef = .bool true := hS.dep 9 88 (by kernel_rfl) (by kernel_rfl)
      refine .inl ⟨rfl, ends_value' (c := .bool true) ?_⟩
      simp [execOp, Act.eval, d88]
    | 11, ho =>
      obtain rfl := Option.some.inj ho
      have d20 : bx.tmps.getD 20 undef = .bool true := hS.base 20 (by kernel_rfl)
      have gd : bx.tmps.getD 89 undef = .bool true := hS.dep 10 89 (by kernel_rfl) (by kernel_rfl)
      refine .inl ⟨wanted_yes (j := 10) (t := 89) (c := true) (by kernel_rfl) (by kernel_rfl) gd, ends_value' (c := .bool true) ?_⟩
      simp [execOp, Act.eval, d20]
    | 12, ho =>
      obtain rfl := Option.some.inj ho
      have d89 : bx.tmps.getD 89 undef = .bool true := hS.dep 10 89 (by kernel_rfl) (by kernel_rfl)
      have d90 : bx.tmps.getD 90 undef = .bool true := hS.dep 11 90 (by kernel_rfl) (by kernel_rfl)
      refine .inl ⟨rfl, ends_value' (c := .bool true) ?_⟩
      simp [Act.eval, d89, d90, go_sem]
    | 13, ho =>
      obtain rfl := Option.some.inj ho
      have d91 : bx.tmps.getD 91 undef = .bool true := hS.dep 12 91 (by kernel_rfl) (by kernel_rfl)
      refine .inl ⟨rfl, ends_value' (c := .bool true) ?_⟩
      simp [execOp, Act.eval, d91]
    | 14, ho =>
      obtain rfl := Option.some.inj ho
      have d0 : bx.tmps.getD 0 undef = .int .u32 a0 := hS.base 0 (by kernel_rfl)
      have gd : bx.tmps.getD 92 undef = .bool true := hS.dep 13 92 (by kernel_rfl) (by kernel_rfl)
      refine .inl ⟨wanted_yes (j := 13) (t := 92) (c := true) (by kernel_rfl) (by kernel_rfl) gd, ends_value' (c := .int .u32 a0) ?_⟩
      simp [execOp, Act.eval, d0]
    | 15, ho =>
      obtain rfl := Option.some.inj ho
      have d1 : bx.tmps.getD 1 undef = .int .u32 a1 := hS.base 1 (by kernel_rfl)
      have gd : bx.tmps.getD 92 undef = .bool true := hS.dep 13 92 (by kernel_rfl) (by kernel_rfl)
      refine .inl ⟨wanted_yes (j := 13) (t := 92) (c := true) (by kernel_rfl) (by kernel_rfl) gd, ends_value' (c := .int .u32 a1) ?_⟩
      simp [execOp, Act.eval, d1]
    | 16, ho =>
      obtain rfl := Option.some.inj ho
      have d18 : bx.tmps.getD 18 undef = .string NO := hS.base 18 (by kernel_rfl)
      have gd : bx.tmps.getD 92 undef = .bool true := hS.dep 13 92 (by kernel_rfl) (by kernel_rfl)
      refine .inl ⟨wanted_yes (j := 13) (t := 92) (c := true) (by kernel_rfl) (by kernel_rfl) gd, ends_value' (c := .string NO) ?_⟩
      simp [execOp, Act.eval, d18]
    | 17, ho =>
      obtain rfl := Option.some.inj ho
      have d93 : bx.tmps.getD 93 undef = .int .u32 a0 := hS.dep 14 93 (by kernel_rfl) (by kernel_rfl)
      have d94 : bx.tmps.getD 94 undef = .int .u32 a1 := hS.dep 15 94 (by kernel_rfl) (by kernel_rfl)
      have d95 : bx.tmps.getD 95 undef = .string NO := hS.dep 16 95 (by kernel_rfl) (by kernel_rfl)
      have gd : bx.tmps.getD 92 undef = .bool true := hS.dep 13 92 (by kernel_rfl) (by kernel_rfl)
      refine .inl ⟨wanted_yes (j := 13) (t := 92) (c := true) (by kernel_rfl) (by kernel_rfl) gd, ends_call' (c := .int .i64 0) (f := 16) (args := #[.int .i64 17, .int .u32 a0, .int .u32 a1, .string NO]) ?_ (unhide HV u)⟩
      simp [Act.eval, d93, d94, d95, go_sem]
    | 18, ho =>
      obtain rfl := Option.some.inj ho
      have d96 : bx.tmps.getD 96 undef = .int .i64 0 := hS.dep 17 96 (by kernel_rfl) (by kernel_rfl)
      have gd : bx.tmps.getD 92 undef = .bool true := hS.dep 13 92 (by kernel_rfl) (by kernel_rfl)
      refine .inl ⟨wanted_yes (j := 13) (t := 92) (c := true) (by kernel_rfl) (by kernel_rfl) gd, ends_value' (c := .bool true) ?_⟩
      simp [Act.eval, d96, go_sem]
    | 19, ho =>
      obtain rfl := Option.some.inj ho
      have d92 : bx.tmps.getD 92 undef = .bool true := hS.dep 13 92 (by kernel_rfl) (by kernel_rfl)
      have d97 : bx.tmps.getD 97 undef = .bool true := hS.dep 18 97 (by kernel_rfl) (by kernel_rfl)
      refine .inl ⟨rfl, ends_value' (c := .bool true) ?_⟩
      simp [Act.eval, d92, d97, go_sem]
    | 20, ho =>
      obtain rfl := Option.some.inj ho
      have d98 : bx.tmps.getD 98 undef = .bool true := hS.dep 19 98 (by kernel_rfl) (by kernel_rfl)
      refine .inl ⟨rfl, ends_value' (c := .bool true) ?_⟩
      simp [execOp, Act.eval, d98]
    | 21, ho =>
      obtain rfl := Option.some.inj ho
      have d16 : bx.tmps.getD 16 undef = .string T := hS.base 16 (by kernel_rfl)
      have gd : bx.tmps.getD 99 undef = .bool true := hS.dep 20 99 (by kernel_rfl) (by kernel_rfl)
      refine .inl ⟨wanted_yes (j := 20) (t := 99) (c := true) (by kernel_rfl) (by kernel_rfl) gd, ends_value' (c := .string T) ?_⟩
      simp [execOp, Act.eval, d16]
    | 22, ho =>
      obtain rfl := Option.some.inj ho
      have d100 : bx.tmps.getD 100 undef = .string T := hS.dep 21 100 (by kernel_rfl) (by kernel_rfl)
      have gd : bx.tmps.getD 99 undef = .bool true := hS.dep 20 99 (by kernel_rfl) (by kernel_rfl)
      refine .inl ⟨wanted_yes (j := 20) (t := 99) (c := true) (by kernel_rfl) (by kernel_rfl) gd, ends_value' (c := .int .u8 (c / 256)) ?_⟩
      simp [Act.eval, d100, go_sem, n6, i6]
    | 23, ho =>
      obtain rfl := Option.some.inj ho
      have d101 : bx.tmps.getD 101 undef = .int .u8 (c / 256) := hS.dep 22 101 (by kernel_rfl) (by kernel_rfl)
      have gd : bx.tmps.getD 99 undef = .bool true := hS.dep 20 99 (by kernel_rfl) (by kernel_rfl)
      refine .inl ⟨wanted_yes (j := 20) (t := 99) (c := true) (by kernel_rfl) (by kernel_rfl) gd, ends_value' (c := .int .i64 (c / 256)) ?_⟩
      simp [Act.eval, d101, go_sem, kh]
    | 24, ho =>
      obtain rfl := Option.some.inj ho
      have d102 : bx.tmps.getD 102 undef = .int .i64 (c / 256) := hS.dep 23 102 (by kernel_rfl) (by kernel_rfl)
      have gd : bx.tmps.getD 99 undef = .bool true := hS.dep 20 99 (by kernel_rfl) (by kernel_rfl)
      refine .inl ⟨wanted_yes (j := 20) (t := 99) (c := true) (by kernel_rfl) (by kernel_rfl) gd, ends_value' (c := .int .i64 (c / 256 * 256)) ?_⟩
      simp [Act.eval, d102, go_sem, ks]
    | 25, ho =>
      obtain rfl := Option.some.inj ho
      have d16 : bx.tmps.getD 16 undef = .string T := hS.base 16 (by kernel_rfl)
      have gd : bx.tmps.getD 99 undef = .bool true := hS.dep 20 99 (by kernel_rfl) (by kernel_rfl)
      refine .inl ⟨wanted_yes (j := 20) (t := 99) (c := true) (by kernel_rfl) (by kernel_rfl) gd, ends_value' (c := .string T) ?_⟩
      simp [execOp, Act.eval, d16]
    | 26, ho =>
      obtain rfl := Option.some.inj ho
      have d104 : bx.tmps.getD 104 undef = .string T := hS.dep 25 104 (by kernel_rfl) (by kernel_rfl)
      have gd : bx.tmps.getD 99 undef = .bool true := hS.dep 20 99 (by kernel_rfl) (by kernel_rfl)
      refine .inl ⟨wanted_yes (j := 20) (t := 99) (c := true) (by kernel_rfl) (by kernel_rfl) gd, ends_value' (c := .int .u8 (c % 256)) ?_⟩
      simp [Act.eval, d104, go_sem, n7, i7]
    | 27, ho =>
      obtain rfl := Option.some.inj ho
      have d105 : bx.tmps.getD 105 undef = .int .u8 (c % 256) := hS.dep 26 105 (by kernel_rfl) (by kernel_rfl)
      have gd : bx.tmps.getD 99 undef = .bool true := hS.dep 20 99 (by kernel_rfl) (by kernel_rfl)
      refine .inl ⟨wanted_yes (j := 20) (t := 99) (c := true) (by kernel_rfl) (by kernel_rfl) gd, ends_value' (c := .int .i64 (c % 256)) ?_⟩
      simp [Act.eval, d105, go_sem, kl]
    | 28, ho =>
      obtain rfl := Option.some.inj ho
      have d103 : bx.tmps.getD 103 undef = .int .i64 (c / 256 * 256) := hS.dep 24 103 (by kernel_rfl) (by kernel_rfl)
      have d106 : bx.tmps.getD 106 undef = .int .i64 (c % 256) := hS.dep 27 106 (by kernel_rfl) (by kernel_rfl)
      have gd : bx.tmps.getD 99 undef = .bool true := hS.dep 20 99 (by kernel_rfl) (by kernel_rfl)
      refine .inl ⟨wanted_yes (j := 20) (t := 99) (c := true) (by kernel_rfl) (by kernel_rfl) gd, ends_value' (c := .int .i64 c) ?_⟩
      simp [Act.eval, d103, d106, go_sem, jb]
    | 29, ho =>
      obtain rfl := Option.some.inj ho
      have d14 : bx.tmps.getD 14 undef = .int .u16 c := hS.base 14 (by kernel_rfl)
      have gd : bx.tmps.getD 99 undef = .bool true := hS.dep 20 99 (by kernel_rfl) (by kernel_rfl)
      refine .inl ⟨wanted_yes (j := 20) (t := 99) (c := true) (by kernel_rfl) (by kernel_rfl) gd, ends_value' (c := .int .u16 c) ?_⟩
      simp [execOp, Act.eval, d14]
    | 30, ho =>
      obtain rfl := Option.some.inj ho
      have d108 : bx.tmps.getD 108 undef = .int .u16 c := hS.dep 29 108 (by kernel_rfl) (by kernel_rfl)
      have gd : bx.tmps.getD 99 undef = .bool true := hS.dep 20 99 (by kernel_rfl) (by kernel_rfl)
      refine .inl ⟨wanted_yes (j := 20) (t := 99) (c := true) (by kernel_rfl) (by kernel_rfl) gd, ends_value' (c := .int .i64 c) ?_⟩
      simp [Act.eval, d108, go_sem, kc]
    | 31, ho =>
      obtain rfl := Option.some.inj ho
      have d107 : bx.tmps.getD 107 undef = .int .i64 c := hS.dep 28 107 (by kernel_rfl) (by kernel_rfl)
      have d109 : bx.tmps.getD 109 undef = .int .i64 c := hS.dep 30 109 (by kernel_rfl) (by kernel_rfl)
      have gd : bx.tmps.getD 99 undef = .bool true := hS.dep 20 99 (by kernel_rfl) (by kernel_rfl)
      refine .inl ⟨wanted_yes (j := 20) (t := 99) (c := true) (by kernel_rfl) (by kernel_rfl) gd, ends_value' (c := .bool true) ?_⟩
      simp [Act.eval, d107, d109, go_sem]
    | 32, ho =>
      obtain rfl := Option.some.inj ho
      have d99 : bx.tmps.getD 99 undef = .bool true := hS.dep 20 99 (by kernel_rfl) (by kernel_rfl)
      have d110 : bx.tmps.getD 110 undef = .bool true := hS.dep 31 110 (by kernel_rfl) (by kernel_rfl)
      refine .inl ⟨rfl, ends_value' (c := .bool true) ?_⟩
      simp [Act.eval, d99, d110, go_sem]
    | 33, ho =>
      obtain rfl := Option.some.inj ho
      have d111 : bx.tmps.getD 111 undef = .bool true := hS.dep 32 111 (by kernel_rfl) (by kernel_rfl)
      refine .inl ⟨rfl, ends_value' (c := .bool true) ?_⟩
      simp [execOp, Act.eval, d111]
    | n + 34, ho => exact absurd ho (by simp)
  case fin =>
    intro u hbel
    simp [putAll, dstAt, Act.put]
    go_wp2_with fail
    go_ret
    exact ⟨rfl, (unhide HB5).drew.trans (hbel.mono (unhide HB5).size)⟩

theorem own : ownKnob Try.prog.godebug = none := by kernel_rfl
set_option maxRecDepth 100000 in
theorem lifted (os : Os) (started : os.Started) (H : Type) (enc : TypeId × Value → H) :
    ReturnsInHanded {} Try.checked os 6 .any (Rows.pseudoZeroSpec.pre6 enc Try.prog Try.f6 Rows.pseudoZeroRow.domain false) (Rows.pseudoZeroSpec.post enc Try.prog Try.f6 false true false false) := by
  refine returnsInHanded_of_change_sized (C := Try.checked) own started (by kernel_rfl) Try.func6
    (ChangeSpec.witness6 (enc := enc) (C := Try.checked) false ⟨#[], #[.int .u32 0, .int .u32 0, .int .u16 0, .int .u16 0, .string ByteArray.empty], []⟩ 8 (by kernel_rfl) (by kernel_rfl) (by kernel_rfl) (by kernel_rfl)) ?_
  intro W base args ds gs before hval0 hW hcnd hsz _
  have hval : ∀ (j : Nat) t v, Try.f6.params[j]? = some t → args[j]? = some v → Value.okWide Try.prog W .any base t v := hval0
  have hW' := hW
  obtain ⟨p, q, hA0, hV, rfl, hfz, hnd⟩ := hW
  have hA : DataW.TrodAll enc Try.prog W 0 (fun _ => true) true Try.f6.params.toList args.toList ds p := hA0
  rw [Try.params6] at hA hval
  obtain ⟨v0, vs0, d0, ds0, p0, q0, hargs, rfl, rfl, h0, r0⟩ := trodAll_cons hA
  obtain ⟨v1, vs1, d1, ds1, p1, q1, rfl, rfl, rfl, h1, r1⟩ := trodAll_cons r0
  obtain ⟨v2, vs2, d2, ds2, p2, q2, rfl, rfl, rfl, h2, r2⟩ := trodAll_cons r1
  obtain ⟨v3, vs3, d3, ds3, p3, q3, rfl, rfl, rfl, h3, r3⟩ := trodAll_cons r2
  obtain ⟨v4, vs4, d4, ds4, p4, q4, rfl, rfl, rfl, h4, r4⟩ := trodAll_cons r3
  obtain ⟨rfl, rfl, rfl⟩ := trodAll_nil r4
  obtain rfl : args = #[v0, v1, v2, v3, v4] := by cases args; simp_all
  obtain ⟨rfl, rfl⟩ := trodVars_none hV
  obtain ⟨a0, rfl, rfl, rfl, w0⟩ := open_int Try.underlying22 (hval 0 22 v0 rfl rfl) h0
  obtain ⟨a1, rfl, rfl, rfl, w1⟩ := open_int Try.underlying22 (hval 1 22 v1 rfl rfl) h1
  obtain ⟨a2, rfl, rfl, rfl, w2⟩ := open_int Try.underlying24 (hval 2 24 v2 rfl rfl) h2
  obtain ⟨a3, rfl, rfl, rfl, w3⟩ := open_int Try.underlying24 (hval 3 24 v3 rfl rfl) h3
  obtain ⟨a4, rfl, rfl, rfl, w4⟩ := open_string Try.underlying9 (hval 4 9 v4 rfl rfl) h4
  clear hA0 hval0
  simp only [List.append_nil] at hW'
  have z4 : a4.size ≤ 140737488355328 := by
    have hq : a4.data.toList.length ≤ reachBytes := sized_string hsz (j := 4) (t := 9) rfl rfl
    have e : a4.data.toList.length = a4.size := by rw [Array.length_toList]; rfl
    rw [e] at hq
    exact Nat.le_trans hq (Nat.le_of_lt reachBytes_lt)
  refine (walk W a0 a1 a2 a3 a4 w0 w1 w2 w3 z4).mono fun e W' ⟨he, bel⟩ => ?_
  subst he
  exact ⟨_, rfl, _, _, _, [], _, [], hW', (trodAll_cons_mk (shut_bool Try.underlying4 _) trodAll_mk0), (trodAll_cons_mk (shut_int Try.underlying22 w0) (trodAll_cons_mk (shut_int Try.underlying22 w1) (trodAll_cons_mk (shut_int Try.underlying24 w2) (trodAll_cons_mk (shut_int Try.underlying24 w3) (trodAll_cons_mk (shut_string Try.underlying9 w4) trodAll_mk0))))), rfl, bel.frame _, fun h => by cases h⟩

theorem over : Rows.pseudoZeroRow.holds Try.pinned (OpenSpec.ofChange Rows.pseudoZeroSpec) :=
  OpenClaim.holds_of_wide 6 Try.f6 rfl rfl rfl rfl rfl rfl rfl ⟨rfl, rfl, rfl, rfl, rfl⟩ rfl rfl rfl rfl rfl (by kernel_rfl) Try.func6 (by kernel_rfl)
    (of_decide_eq_true (by kernel_rfl)) (by unfold Func.isWrapper; first | (rw [if_pos (by decide +kernel)]; kernel_rfl) | (rw [if_neg (by decide +kernel)]; exact ⟨rfl, rfl⟩))
    (fun os started H enc _ => lifted os started H enc)

theorem proved : Rows.PseudoZeroSaid := over
#print axioms proved
end Go.Proofs.Ytmeafeomfblncaa.pseudoZero
