/- The law PseudoShort returns true for every number of bytes and every protocol, and changes nothing that was there before; no condition but the form's own. -/
import Derived.Test.YtmeafeomfblncaaRows
import Derived.OpenShut
import Derived.ShutString
import Derived.ChangeOld
import Derived.Below
import Derived.SizedLaws
import Derived.Test.YtmeafeomfblncaaPsEx
import Derived.Test.YtmeafeomfblncaaUdMake
namespace Go.Proofs.Ytmeafeomfblncaa.pseudoShort
open Go.ChangeShapes Go.WideShapes Go.ChangeAt Go.RowKit
open Go.ChangeMaps (open_string shut_string)
set_option linter.unusedVariables false
theorem short_got (s : ByteArray) : gotB s 16 2 = decide (18 ≤ (s.size : Int)) := by
  rw [Bool.eq_iff_iff, gotB_iff]
  unfold Fits
  simp
  omega
theorem short_chk (s : ByteArray) : chkB 6 s = decide (18 ≤ (s.size : Int)) := by
  rw [chkB_got, cov_no1 (by decide)]
  exact short_got s
theorem short_ver (s : ByteArray) : (verE 6 1 2 s == 2) = decide ((s.size : Int) < 18) := by
  cases h : decide (18 ≤ (s.size : Int)) with
  | false =>
    have e := verE_2 (p := 6) (src := 1) (dst := 2) (s := s) (by decide) (by rw [cov_no1 (by decide)]; exact (short_got s).trans h)
    rw [e]; simp at h ⊢; omega
  | true =>
    have e := verE_s (p := 6) (src := 1) (dst := 2) (s := s) (by decide) (by rw [cov_no1 (by decide)]; exact (short_got s).trans h) rfl
    have hl : decide ((s.size : Int) < 18) = false := by simp at h ⊢; omega
    rw [e, hl]
    split <;> rfl
theorem ver_nine (p src dst : Int) (s : ByteArray) : (verE p src dst s == 9) = !plcB p := by
  cases h : plcB p with
  | false => rw [verE_9 h]; rfl
  | true =>
    cases hg : gotB (cov p s) (plc p) 2 with
    | false => rw [verE_2 h hg]; rfl
    | true =>
      cases h3 : ((p == 17) && (got (cov p s) (plc p) 2 == 0)) with
      | true => rw [verE_0 h hg h3]; rfl
      | false => rw [verE_s h hg h3]; split <;> rfl
set_option maxHeartbeats 4000000 in
set_option maxRecDepth 100000 in
theorem walk (w : World) (a0 : Int) (a1 : Int) (w0 : (Lit.int .u8 a0).wf = true) (w1 : (Lit.int .i64 a1).wf = true) :
    Calls Try.prog 8 #[.int .u8 a0, .int .i64 a1] w fun e w' => e = .returned (.bool true) ∧ Below w.heap.size w w' := by
  obtain ⟨x0, x1⟩ := bounds_u8 w0
  obtain ⟨p0, p1⟩ := bounds_i64 w1
  have k40 : a0.tmod 40 = a0 % 40 := Int.tmod_eq_emod_of_nonneg x0
  obtain ⟨K, hK⟩ : ∃ K : Nat, a0 % 40 = K := ⟨(a0 % 40).toNat, by omega⟩
  have hK1 : (K : Int) ≤ 39 := by omega
  have hmk := make_run (K : Int) (by omega) (by omega)
  simp only [Int.toNat_natCast] at hmk
  have hcv := fun W => conv_zeros W K
  have hz := zeroS_size K
  have hP : I64 a1 := ⟨by omega, by omega⟩
  have HC := hide (fun u => pcheck_any 6 1 2 (zeroS K) u ⟨by decide, by decide⟩ ⟨by decide, by decide⟩ ⟨by decide, by decide⟩ (by omega))
  have HV6 := hide (fun u => pverify_any 6 1 2 (zeroS K) u ⟨by decide, by decide⟩ ⟨by decide, by decide⟩ ⟨by decide, by decide⟩ (by omega))
  have HV := hide (fun u => pverify_any a1 1 2 (zeroS K) u hP ⟨by decide, by decide⟩ ⟨by decide, by decide⟩ (by omega))
  have HP := hide (fun u => place_any a1 u hP)
  have e1 := short_chk (zeroS K)
  have e2 := short_ver (zeroS K)
  have e3 := ver_nine a1 1 2 (zeroS K)
  have e4 : plcB a1 = ((a1 == 6) || (a1 == 17)) := rfl
  have n0 := chkN_lo 6 1 2 (zeroS K)
  have n1 := chkN_hi 6 1 2 (zeroS K)
  rw [hz] at e1 e2
  rw [e1] at HC
  generalize chkN 6 1 2 (zeroS K) = N at *
  generalize verE 6 1 2 (zeroS K) = V6 at *
  generalize verE a1 1 2 (zeroS K) = V at *
  generalize plc a1 = L at *
  generalize zeroS K = Z at *
  have HX := hide (examples_ok w)
  clear hP hz e1 x0 x1 p0 p1
  cases c6 : a1 == 6 with
  | true =>
    rw [c6, Bool.true_or] at e4
    rw [e4] at HP e3
    generalize plcB a1 = LB at *
    simp only [Bool.not_true] at e3
    cases h18 : decide (18 ≤ (K : Int)) with
    | false =>
      have h18' : decide ((K : Int) < 18) = true := by simp at h18 ⊢; omega
      rw [h18] at HC
      rw [h18'] at e2
      go_enter Try.func8, Try.ntmps8
      go_wp2_with fail
      refine (unhide HX).mono ?_
      rintro e v1 ⟨rfl, hb⟩
      have HB1 := hide hb
      clear hb
      go_wp2_with fail
      refine (unhide HC _).mono ?_
      rintro e v2 ⟨rfl, hb⟩
      have HB2 := hide (Below.then (unhide HB1) (Below.then ((Below.refl v1.heap.size v1).alloc (Nat.le_refl _) _) hb))
      clear hb
      go_wp2_with fail
      refine (unhide HP _).mono ?_
      rintro e v3 ⟨rfl, hb⟩
      have HB3 := hide (Below.then (unhide HB2) hb)
      clear hb
      go_wp2_with fail
      refine (unhide HV _).mono ?_
      rintro e v4 ⟨rfl, hb⟩
      have HB4 := hide (Below.then (unhide HB3) hb)
      clear hb
      go_wp2_with fail
      refine (unhide HV6 _).mono ?_
      rintro e v5 ⟨rfl, hb⟩
      have HB5 := hide (Below.then (unhide HB4) hb)
      clear hb
      go_wp2_with fail
      go_ret
      exact ⟨rfl, unhide HB5⟩
    | true =>
      have h18' : decide ((K : Int) < 18) = false := by simp at h18 ⊢; omega
      rw [h18] at HC
      rw [h18'] at e2
      go_enter Try.func8, Try.ntmps8
      go_wp2_with fail
      refine (unhide HX).mono ?_
      rintro e v1 ⟨rfl, hb⟩
      have HB1 := hide hb
      clear hb
      go_wp2_with fail
      refine (unhide HC _).mono ?_
      rintro e v2 ⟨rfl, hb⟩
      have HB2 := hide (Below.then (unhide HB1) (Below.then ((Below.refl v1.heap.size v1).alloc (Nat.le_refl _) _) hb))
      clear hb
      go_wp2_with fail
      refine (unhide HP _).mono ?_
      rintro e v3 ⟨rfl, hb⟩
      have HB3 := hide (Below.then (unhide HB2) hb)
      clear hb
      go_wp2_with fail
      refine (unhide HV _).mono ?_
      rintro e v4 ⟨rfl, hb⟩
      have HB4 := hide (Below.then (unhide HB3) hb)
      clear hb
      go_wp2_with fail
      refine (unhide HV6 _).mono ?_
      rintro e v5 ⟨rfl, hb⟩
      have HB5 := hide (Below.then (unhide HB4) hb)
      clear hb
      go_wp2_with fail
      go_ret
      exact ⟨rfl, unhide HB5⟩
  | false =>
    cases c17 : a1 == 17 with
    | true =>
      rw [c6, c17, Bool.false_or] at e4
      rw [e4] at HP e3
      generalize plcB a1 = LB at *
      simp only [Bool.not_true] at e3
      cases h18 : decide (18 ≤ (K : Int)) with
      | false =>
        have h18' : decide ((K : Int) < 18) = true := by simp at h18 ⊢; omega
        rw [h18] at HC
        rw [h18'] at e2
        go_enter Try.func8, Try.ntmps8
        go_wp2_with fail
        refine (unhide HX).mono ?_
        rintro e v1 ⟨rfl, hb⟩
        have HB1 := hide hb
        clear hb
        go_wp2_with fail
        refine (unhide HC _).mono ?_
        rintro e v2 ⟨rfl, hb⟩
        have HB2 := hide (Below.then (unhide HB1) (Below.then ((Below.refl v1.heap.size v1).alloc (Nat.le_refl _) _) hb))
        clear hb
        go_wp2_with fail
        refine (unhide HP _).mono ?_
        rintro e v3 ⟨rfl, hb⟩
        have HB3 := hide (Below.then (unhide HB2) hb)
        clear hb
        go_wp2_with fail
        refine (unhide HV _).mono ?_
        rintro e v4 ⟨rfl, hb⟩
        have HB4 := hide (Below.then (unhide HB3) hb)
        clear hb
        go_wp2_with fail
        refine (unhide HV6 _).mono ?_
        rintro e v5 ⟨rfl, hb⟩
        have HB5 := hide (Below.then (unhide HB4) hb)
        clear hb
        go_wp2_with fail
        go_ret
        exact ⟨rfl, unhide HB5⟩
      | true =>
        have h18' : decide ((K : Int) < 18) = false := by simp at h18 ⊢; omega
        rw [h18] at HC
        rw [h18'] at e2
        go_enter Try.func8, Try.ntmps8
        go_wp2_with fail
        refine (unhide HX).mono ?_
        rintro e v1 ⟨rfl, hb⟩
        have HB1 := hide hb
        clear hb
        go_wp2_with fail
        refine (unhide HC _).mono ?_
        rintro e v2 ⟨rfl, hb⟩
        have HB2 := hide (Below.then (unhide HB1) (Below.then ((Below.refl v1.heap.size v1).alloc (Nat.le_refl _) _) hb))
        clear hb
        go_wp2_with fail
        refine (unhide HP _).mono ?_
        rintro e v3 ⟨rfl, hb⟩
        have HB3 := hide (Below.then (unhide HB2) hb)
        clear hb
        go_wp2_with fail
        refine (unhide HV _).mono ?_
        rintro e v4 ⟨rfl, hb⟩
        have HB4 := hide (Below.then (unhide HB3) hb)
        clear hb
        go_wp2_with fail
        refine (unhide HV6 _).mono ?_
        rintro e v5 ⟨rfl, hb⟩
        have HB5 := hide (Below.then (unhide HB4) hb)
        clear hb
        go_wp2_with fail
        go_ret
        exact ⟨rfl, unhide HB5⟩
    | false =>
      rw [c6, c17, Bool.false_or] at e4
      rw [e4] at HP e3
      generalize plcB a1 = LB at *
      simp only [Bool.not_false] at e3
      cases h18 : decide (18 ≤ (K : Int)) with
      | false =>
        have h18' : decide ((K : Int) < 18) = true := by simp at h18 ⊢; omega
        rw [h18] at HC
        rw [h18'] at e2
        go_enter Try.func8, Try.ntmps8
        go_wp2_with fail
        refine (unhide HX).mono ?_
        rintro e v1 ⟨rfl, hb⟩
        have HB1 := hide hb
        clear hb
        go_wp2_with fail
        refine (unhide HC _).mono ?_
        rintro e v2 ⟨rfl, hb⟩
        have HB2 := hide (Below.then (unhide HB1) (Below.then ((Below.refl v1.heap.size v1).alloc (Nat.le_refl _) _) hb))
        clear hb
        go_wp2_with fail
        refine (unhide HP _).mono ?_
        rintro e v3 ⟨rfl, hb⟩
        have HB3 := hide (Below.then (unhide HB2) hb)
        clear hb
        go_wp2_with fail
        refine (unhide HV _).mono ?_
        rintro e v4 ⟨rfl, hb⟩
        have HB4 := hide (Below.then (unhide HB3) hb)
        clear hb
        go_wp2_with fail
        refine (unhide HV6 _).mono ?_
        rintro e v5 ⟨rfl, hb⟩
        have HB5 := hide (Below.then (unhide HB4) hb)
        clear hb
        go_wp2_with fail
        go_ret
        exact ⟨rfl, unhide HB5⟩
      | true =>
        have h18' : decide ((K : Int) < 18) = false := by simp at h18 ⊢; omega
        rw [h18] at HC
        rw [h18'] at e2
        go_enter Try.func8, Try.ntmps8
        go_wp2_with fail
        refine (unhide HX).mono ?_
        rintro e v1 ⟨rfl, hb⟩
        have HB1 := hide hb
        clear hb
        go_wp2_with fail
        refine (unhide HC _).mono ?_
        rintro e v2 ⟨rfl, hb⟩
        have HB2 := hide (Below.then (unhide HB1) (Below.then ((Below.refl v1.heap.size v1).alloc (Nat.le_refl _) _) hb))
        clear hb
        go_wp2_with fail
        refine (unhide HP _).mono ?_
        rintro e v3 ⟨rfl, hb⟩
        have HB3 := hide (Below.then (unhide HB2) hb)
        clear hb
        go_wp2_with fail
        refine (unhide HV _).mono ?_
        rintro e v4 ⟨rfl, hb⟩
        have HB4 := hide (Below.then (unhide HB3) hb)
        clear hb
        go_wp2_with fail
        refine (unhide HV6 _).mono ?_
        rintro e v5 ⟨rfl, hb⟩
        have HB5 := hide (Below.then (unhide HB4) hb)
        clear hb
        go_wp2_with fail
        go_ret
        exact ⟨rfl, unhide HB5⟩

theorem own : ownKnob Try.prog.godebug = none := by kernel_rfl
set_option maxRecDepth 100000 in
theorem lifted (os : Os) (started : os.Started) (H : Type) (enc : TypeId × Value → H) :
    ReturnsInHanded {} Try.checked os 8 .any (Rows.pseudoShortSpec.pre6 enc Try.prog Try.f8 Rows.pseudoShortRow.domain false) (Rows.pseudoShortSpec.post enc Try.prog Try.f8 false true false false) := by
  refine returnsInHanded_of_change_sized (C := Try.checked) own started (by kernel_rfl) Try.func8
    (ChangeSpec.witness6 (enc := enc) (C := Try.checked) false ⟨#[], #[.int .u8 0, .int .i64 0], []⟩ 8 (by kernel_rfl) (by kernel_rfl) (by kernel_rfl) (by kernel_rfl)) ?_
  intro W base args ds gs before hval0 hW hcnd hsz _
  have hval : ∀ (j : Nat) t v, Try.f8.params[j]? = some t → args[j]? = some v → Value.okWide Try.prog W .any base t v := hval0
  have hW' := hW
  obtain ⟨p, q, hA0, hV, rfl, hfz, hnd⟩ := hW
  have hA : DataW.TrodAll enc Try.prog W 0 (fun _ => true) true Try.f8.params.toList args.toList ds p := hA0
  rw [Try.params8] at hA hval
  obtain ⟨v0, vs0, d0, ds0, p0, q0, hargs, rfl, rfl, h0, r0⟩ := trodAll_cons hA
  obtain ⟨v1, vs1, d1, ds1, p1, q1, rfl, rfl, rfl, h1, r1⟩ := trodAll_cons r0
  obtain ⟨rfl, rfl, rfl⟩ := trodAll_nil r1
  obtain rfl : args = #[v0, v1] := by cases args; simp_all
  obtain ⟨rfl, rfl⟩ := trodVars_none hV
  obtain ⟨a0, rfl, rfl, rfl, w0⟩ := open_int Try.underlying5 (hval 0 5 v0 rfl rfl) h0
  obtain ⟨a1, rfl, rfl, rfl, w1⟩ := open_int Try.underlying3 (hval 1 3 v1 rfl rfl) h1
  clear hA0 hval0
  simp only [List.append_nil] at hW'
  refine (walk W a0 a1 w0 w1).mono fun e W' ⟨he, bel⟩ => ?_
  subst he
  exact ⟨_, rfl, _, _, _, [], _, [], hW', (trodAll_cons_mk (shut_bool Try.underlying4 _) trodAll_mk0), (trodAll_cons_mk (shut_int Try.underlying5 w0) (trodAll_cons_mk (shut_int Try.underlying3 w1) trodAll_mk0)), rfl, bel.frame _, fun h => by cases h⟩

theorem over : Rows.pseudoShortRow.holds Try.pinned (OpenSpec.ofChange Rows.pseudoShortSpec) :=
  OpenClaim.holds_of_wide 8 Try.f8 rfl rfl rfl rfl rfl rfl rfl ⟨rfl, rfl, rfl, rfl, rfl⟩ rfl rfl rfl rfl rfl (by kernel_rfl) Try.func8 (by kernel_rfl)
    (of_decide_eq_true (by kernel_rfl)) (by unfold Func.isWrapper; first | (rw [if_pos (by decide +kernel)]; kernel_rfl) | (rw [if_neg (by decide +kernel)]; exact ⟨rfl, rfl⟩))
    (fun os started H enc _ => lifted os started H enc)

theorem proved : Rows.PseudoShortSaid := over
#print axioms proved
end Go.Proofs.Ytmeafeomfblncaa.pseudoShort
