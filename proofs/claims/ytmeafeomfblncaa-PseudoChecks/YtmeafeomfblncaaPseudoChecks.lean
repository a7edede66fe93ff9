/- The law PseudoChecks returns true for every protocol, every two addresses and every text, and changes nothing that was there before; no condition but the form's own. -/
import Derived.Test.YtmeafeomfblncaaRows
import Derived.OpenShut
import Derived.ShutString
import Derived.ChangeOld
import Derived.Below
import Derived.SizedLaws
import Derived.Test.YtmeafeomfblncaaPsEx
namespace Go.Proofs.Ytmeafeomfblncaa.pseudoChecks
open Go.ChangeShapes Go.WideShapes Go.ChangeAt Go.RowKit
open Go.ChangeMaps (open_string shut_string)
set_option linter.unusedVariables false
set_option maxHeartbeats 4000000 in
set_option maxRecDepth 100000 in
theorem walk (w : World) (a0 : Int) (a1 : Int) (a2 : Int) (a3 : ByteArray) (a4 : Int) (w0 : (Lit.int .i64 a0).wf = true) (w1 : (Lit.int .u32 a1).wf = true) (w2 : (Lit.int .u32 a2).wf = true) (z3 : a3.size ≤ 140737488355328) (w4 : (Lit.int .u8 a4).wf = true) :
    Calls Try.prog 3 #[.int .i64 a0, .int .u32 a1, .int .u32 a2, .string a3, .int .u8 a4] w fun e w' => e = .returned (.bool true) ∧ Below w.heap.size w w' := by
  obtain ⟨p0, p1⟩ := bounds_i64 w0
  obtain ⟨s0, s1⟩ := bounds_u32 w1
  obtain ⟨d0, d1⟩ := bounds_u32 w2
  obtain ⟨x0, x1⟩ := bounds_u8 w4
  obtain ⟨m, hmin⟩ : ∃ m : Nat, min (a3.size : Int) 1500 = m := ⟨min a3.size 1500, by omega⟩
  have hm1 : m ≤ 1500 := by omega
  have hm2 : m ≤ a3.size := by omega
  have hm3 : (m : Int) ≤ a3.size := by omega
  have hBs : (a3.extract 0 m).size = m := by rw [Oct.ext_size _ _ _ hm2]; rfl
  generalize hB : a3.extract 0 m = B at *
  have hS : U32 a1 := ⟨s0, by omega⟩
  have hD : U32 a2 := ⟨d0, by omega⟩
  have hb1 : B.size ≤ 1048000 := by omega
  have hb2 : B.size ≤ 140737488360000 := by omega
  have HC := hide (fun P hP u => pcheck_any P a1 a2 B u hP hS hD hb2)
  have HF := hide (fun P hP u => pfill_any P a1 a2 B u hP hS hD hb2)
  have HV := hide (fun P hP u => pverify_any P a1 a2 B u hP hS hD hb2)
  have HRC := hide (fun P u => rpcheck_any P a1 a2 B u hS hD hb1)
  have HRF := hide (fun P u => rpfill_any P a1 a2 B u hS hD hb1)
  have HRV := hide (fun P u => rpverify_any P a1 a2 B u hS hD hb1)
  have HI := hide (show I64 a0 from ⟨by omega, by omega⟩)
  have k3 : a4.tmod 3 = a4 % 3 := Int.tmod_eq_emod_of_nonneg x0
  clear hBs hS hD hb1 hb2 p0 p1 hm1 hm2
  have HX := hide (examples_ok w)
  cases c1 : a4 % 3 == 1 with
  | true =>
    have G1 := hide (unhide HC 6 ⟨by decide, by decide⟩)
    have G2 := hide (unhide HRC 6)
    have G3 := hide (unhide HF 6 ⟨by decide, by decide⟩)
    have G4 := hide (unhide HRF 6)
    have G5 := hide (fun u => place_any 6 u ⟨by decide, by decide⟩)
    have G6 := hide (fun u => rplace_any 6 u)
    have G7 := hide (unhide HV 6 ⟨by decide, by decide⟩)
    have G8 := hide (unhide HRV 6)
    clear HC HRC HF HRF HV HRV HI
    have n0 := chkN_lo 6 a1 a2 B
    have n1 := chkN_hi 6 a1 a2 B
    generalize chkN 6 a1 a2 B = N at *
    generalize chkB 6 B = nb at *
    generalize fillS 6 a1 a2 B = FT at *
    generalize fillB 6 a1 a2 B = FB at *
    generalize verE 6 a1 a2 B = V at *
    generalize plc 6 = L at *
    generalize plcB 6 = LB at *
    go_enter Try.func3, Try.ntmps3
    go_wp2_with fail
    refine (unhide HX).mono ?_
    rintro e v1 ⟨rfl, hb⟩
    have HB1 := hide hb
    clear hb
    go_wp2_with fail
    refine (unhide G1 _).mono ?_
    rintro e v2 ⟨rfl, hb⟩
    have HB2 := hide (Below.then (unhide HB1) hb)
    clear hb
    go_wp2_with fail
    refine (unhide G2 _).mono ?_
    rintro e v3 ⟨rfl, hb⟩
    have HB3 := hide (Below.then (unhide HB2) hb)
    clear hb
    go_wp2_with fail
    refine (unhide G3 _).mono ?_
    rintro e v4 ⟨rfl, hb⟩
    have HB4 := hide (Below.then (unhide HB3) hb)
    clear hb
    go_wp2_with fail
    refine (unhide G4 _).mono ?_
    rintro e v5 ⟨rfl, hb⟩
    have HB5 := hide (Below.then (unhide HB4) hb)
    clear hb
    go_wp2_with fail
    refine (unhide G5 _).mono ?_
    rintro e v6 ⟨rfl, hb⟩
    have HB6 := hide (Below.then (unhide HB5) hb)
    clear hb
    go_wp2_with fail
    refine (unhide G6 _).mono ?_
    rintro e v7 ⟨rfl, rfl⟩
    go_wp2_with fail
    refine (unhide G7 _).mono ?_
    rintro e v8 ⟨rfl, hb⟩
    have HB8 := hide (Below.then (unhide HB6) hb)
    clear hb
    go_wp2_with fail
    refine (unhide G8 _).mono ?_
    rintro e v9 ⟨rfl, hb⟩
    have HB9 := hide (Below.then (unhide HB8) hb)
    clear hb
    go_wp2_with fail
    go_ret
    exact ⟨rfl, unhide HB9⟩
  | false =>
    cases c2 : a4 % 3 == 2 with
    | true =>
      have G1 := hide (unhide HC 17 ⟨by decide, by decide⟩)
      have G2 := hide (unhide HRC 17)
      have G3 := hide (unhide HF 17 ⟨by decide, by decide⟩)
      have G4 := hide (unhide HRF 17)
      have G5 := hide (fun u => place_any 17 u ⟨by decide, by decide⟩)
      have G6 := hide (fun u => rplace_any 17 u)
      have G7 := hide (unhide HV 17 ⟨by decide, by decide⟩)
      have G8 := hide (unhide HRV 17)
      clear HC HRC HF HRF HV HRV HI
      have n0 := chkN_lo 17 a1 a2 B
      have n1 := chkN_hi 17 a1 a2 B
      generalize chkN 17 a1 a2 B = N at *
      generalize chkB 17 B = nb at *
      generalize fillS 17 a1 a2 B = FT at *
      generalize fillB 17 a1 a2 B = FB at *
      generalize verE 17 a1 a2 B = V at *
      generalize plc 17 = L at *
      generalize plcB 17 = LB at *
      go_enter Try.func3, Try.ntmps3
      go_wp2_with fail
      refine (unhide HX).mono ?_
      rintro e v1 ⟨rfl, hb⟩
      have HB1 := hide hb
      clear hb
      go_wp2_with fail
      refine (unhide G1 _).mono ?_
      rintro e v2 ⟨rfl, hb⟩
      have HB2 := hide (Below.then (unhide HB1) hb)
      clear hb
      go_wp2_with fail
      refine (unhide G2 _).mono ?_
      rintro e v3 ⟨rfl, hb⟩
      have HB3 := hide (Below.then (unhide HB2) hb)
      clear hb
      go_wp2_with fail
      refine (unhide G3 _).mono ?_
      rintro e v4 ⟨rfl, hb⟩
      have HB4 := hide (Below.then (unhide HB3) hb)
      clear hb
      go_wp2_with fail
      refine (unhide G4 _).mono ?_
      rintro e v5 ⟨rfl, hb⟩
      have HB5 := hide (Below.then (unhide HB4) hb)
      clear hb
      go_wp2_with fail
      refine (unhide G5 _).mono ?_
      rintro e v6 ⟨rfl, hb⟩
      have HB6 := hide (Below.then (unhide HB5) hb)
      clear hb
      go_wp2_with fail
      refine (unhide G6 _).mono ?_
      rintro e v7 ⟨rfl, rfl⟩
      go_wp2_with fail
      refine (unhide G7 _).mono ?_
      rintro e v8 ⟨rfl, hb⟩
      have HB8 := hide (Below.then (unhide HB6) hb)
      clear hb
      go_wp2_with fail
      refine (unhide G8 _).mono ?_
      rintro e v9 ⟨rfl, hb⟩
      have HB9 := hide (Below.then (unhide HB8) hb)
      clear hb
      go_wp2_with fail
      go_ret
      exact ⟨rfl, unhide HB9⟩
    | false =>
      have G1 := hide (unhide HC a0 (unhide HI))
      have G2 := hide (unhide HRC a0)
      have G3 := hide (unhide HF a0 (unhide HI))
      have G4 := hide (unhide HRF a0)
      have G5 := hide (fun u => place_any a0 u (unhide HI))
      have G6 := hide (fun u => rplace_any a0 u)
      have G7 := hide (unhide HV a0 (unhide HI))
      have G8 := hide (unhide HRV a0)
      clear HC HRC HF HRF HV HRV HI
      have n0 := chkN_lo a0 a1 a2 B
      have n1 := chkN_hi a0 a1 a2 B
      generalize chkN a0 a1 a2 B = N at *
      generalize chkB a0 B = nb at *
      generalize fillS a0 a1 a2 B = FT at *
      generalize fillB a0 a1 a2 B = FB at *
      generalize verE a0 a1 a2 B = V at *
      generalize plc a0 = L at *
      generalize plcB a0 = LB at *
      go_enter Try.func3, Try.ntmps3
      go_wp2_with fail
      refine (unhide HX).mono ?_
      rintro e v1 ⟨rfl, hb⟩
      have HB1 := hide hb
      clear hb
      go_wp2_with fail
      refine (unhide G1 _).mono ?_
      rintro e v2 ⟨rfl, hb⟩
      have HB2 := hide (Below.then (unhide HB1) hb)
      clear hb
      go_wp2_with fail
      refine (unhide G2 _).mono ?_
      rintro e v3 ⟨rfl, hb⟩
      have HB3 := hide (Below.then (unhide HB2) hb)
      clear hb
      go_wp2_with fail
      refine (unhide G3 _).mono ?_
      rintro e v4 ⟨rfl, hb⟩
      have HB4 := hide (Below.then (unhide HB3) hb)
      clear hb
      go_wp2_with fail
      refine (unhide G4 _).mono ?_
      rintro e v5 ⟨rfl, hb⟩
      have HB5 := hide (Below.then (unhide HB4) hb)
      clear hb
      go_wp2_with fail
      refine (unhide G5 _).mono ?_
      rintro e v6 ⟨rfl, hb⟩
      have HB6 := hide (Below.then (unhide HB5) hb)
      clear hb
      go_wp2_with fail
      refine (unhide G6 _).mono ?_
      rintro e v7 ⟨rfl, rfl⟩
      go_wp2_with fail
      refine (unhide G7 _).mono ?_
      rintro e v8 ⟨rfl, hb⟩
      have HB8 := hide (Below.then (unhide HB6) hb)
      clear hb
      go_wp2_with fail
      refine (unhide G8 _).mono ?_
      rintro e v9 ⟨rfl, hb⟩
      have HB9 := hide (Below.then (unhide HB8) hb)
      clear hb
      go_wp2_with fail
      go_ret
      exact ⟨rfl, unhide HB9⟩

theorem own : ownKnob Try.prog.godebug = none := by kernel_rfl
set_option maxRecDepth 100000 in
theorem lifted (os : Os) (started : os.Started) (H : Type) (enc : TypeId × Value → H) :
    ReturnsInHanded {} Try.checked os 3 .any (Rows.pseudoChecksSpec.pre6 enc Try.prog Try.f3 Rows.pseudoChecksRow.domain false) (Rows.pseudoChecksSpec.post enc Try.prog Try.f3 false true false false) := by
  refine returnsInHanded_of_change_sized (C := Try.checked) own started (by kernel_rfl) Try.func3
    (ChangeSpec.witness6 (enc := enc) (C := Try.checked) false ⟨#[], #[.int .i64 0, .int .u32 0, .int .u32 0, .string ByteArray.empty, .int .u8 0], []⟩ 8 (by kernel_rfl) (by kernel_rfl) (by kernel_rfl) (by kernel_rfl)) ?_
  intro W base args ds gs before hval0 hW hcnd hsz _
  have hval : ∀ (j : Nat) t v, Try.f3.params[j]? = some t → args[j]? = some v → Value.okWide Try.prog W .any base t v := hval0
  have hW' := hW
  obtain ⟨p, q, hA0, hV, rfl, hfz, hnd⟩ := hW
  have hA : DataW.TrodAll enc Try.prog W 0 (fun _ => true) true Try.f3.params.toList args.toList ds p := hA0
  rw [Try.params3] at hA hval
  obtain ⟨v0, vs0, d0, ds0, p0, q0, hargs, rfl, rfl, h0, r0⟩ := trodAll_cons hA
  obtain ⟨v1, vs1, d1, ds1, p1, q1, rfl, rfl, rfl, h1, r1⟩ := trodAll_cons r0
  obtain ⟨v2, vs2, d2, ds2, p2, q2, rfl, rfl, rfl, h2, r2⟩ := trodAll_cons r1
  obtain ⟨v3, vs3, d3, ds3, p3, q3, rfl, rfl, rfl, h3, r3⟩ := trodAll_cons r2
  obtain ⟨v4, vs4, d4, ds4, p4, q4, rfl, rfl, rfl, h4, r4⟩ := trodAll_cons r3
  obtain ⟨rfl, rfl, rfl⟩ := trodAll_nil r4
  obtain rfl : args = #[v0, v1, v2, v3, v4] := by cases args; simp_all
  obtain ⟨rfl, rfl⟩ := trodVars_none hV
  obtain ⟨a0, rfl, rfl, rfl, w0⟩ := open_int Try.underlying3 (hval 0 3 v0 rfl rfl) h0
  obtain ⟨a1, rfl, rfl, rfl, w1⟩ := open_int Try.underlying22 (hval 1 22 v1 rfl rfl) h1
  obtain ⟨a2, rfl, rfl, rfl, w2⟩ := open_int Try.underlying22 (hval 2 22 v2 rfl rfl) h2
  obtain ⟨a3, rfl, rfl, rfl, w3⟩ := open_string Try.underlying9 (hval 3 9 v3 rfl rfl) h3
  obtain ⟨a4, rfl, rfl, rfl, w4⟩ := open_int Try.underlying5 (hval 4 5 v4 rfl rfl) h4
  clear hA0 hval0
  simp only [List.append_nil] at hW'
  have z3 : a3.size ≤ 140737488355328 := by
    have hq : a3.data.toList.length ≤ reachBytes := sized_string hsz (j := 3) (t := 9) rfl rfl
    have e : a3.data.toList.length = a3.size := by rw [Array.length_toList]; rfl
    rw [e] at hq
    exact Nat.le_trans hq (Nat.le_of_lt reachBytes_lt)
  refine (walk W a0 a1 a2 a3 a4 w0 w1 w2 z3 w4).mono fun e W' ⟨he, bel⟩ => ?_
  subst he
  exact ⟨_, rfl, _, _, _, [], _, [], hW', (trodAll_cons_mk (shut_bool Try.underlying4 _) trodAll_mk0), (trodAll_cons_mk (shut_int Try.underlying3 w0) (trodAll_cons_mk (shut_int Try.underlying22 w1) (trodAll_cons_mk (shut_int Try.underlying22 w2) (trodAll_cons_mk (shut_string Try.underlying9 w3) (trodAll_cons_mk (shut_int Try.underlying5 w4) trodAll_mk0))))), rfl, bel.frame _, fun h => by cases h⟩

theorem over : Rows.pseudoChecksRow.holds Try.pinned (OpenSpec.ofChange Rows.pseudoChecksSpec) :=
  OpenClaim.holds_of_wide 3 Try.f3 rfl rfl rfl rfl rfl rfl rfl ⟨rfl, rfl, rfl, rfl, rfl⟩ rfl rfl rfl rfl rfl (by kernel_rfl) Try.func3 (by kernel_rfl)
    (of_decide_eq_true (by kernel_rfl)) (by unfold Func.isWrapper; first | (rw [if_pos (by decide +kernel)]; kernel_rfl) | (rw [if_neg (by decide +kernel)]; exact ⟨rfl, rfl⟩))
    (fun os started H enc _ => lifted os started H enc)

theorem proved : Rows.PseudoChecksSaid := over
#print axioms proved
end Go.Proofs.Ytmeafeomfblncaa.pseudoChecks
