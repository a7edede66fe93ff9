/- The law IcmpKinds returns true for every kind, every code and every rest, and changes nothing that was there before, where the package's four variables hold what the program's own text lays in them; no condition but the form's own. -/
import Derived.Test.YteggaeleehlhmaaDoorIcLaid
import Derived.Test.YteggaeleehlhmaaDoorIcEx
namespace Go.Proofs.YteggaeleehlhmaaDoor.icmpKinds
open Go.ChangeShapes Go.WideShapes Go.ChangeAt Go.RowKit
open Go.ChangeMaps (open_string shut_string)
set_option linter.unusedVariables false
set_option maxHeartbeats 1000000 in
set_option maxRecDepth 100000 in
theorem walk (w : World) (hE : Env w) (a0 : Int) (w0 : (Lit.int .i64 a0).wf = true) (a1 : Int) (w1 : (Lit.int .i64 a1).wf = true) (a2 : Int) (w2 : (Lit.int .u32 a2).wf = true) :
    Calls Tryd.prog 6 #[.int .i64 a0, .int .i64 a1, .int .u32 a2] w fun e w' => e = .returned (.bool true) ∧ Below w.heap.size w w' := by
  obtain ⟨r0, r1⟩ := bounds_u32 w2
  obtain ⟨x0, x1⟩ := bounds_i64 w0
  obtain ⟨y0, y1⟩ := bounds_i64 w1
  have HMC := hide (fun u hu => mtu_any ⟨a0, a1, a2, ⟨#[]⟩⟩ u ⟨⟨x0, x1⟩, ⟨y0, y1⟩, ⟨r0, r1⟩, Nat.zero_le _⟩ hu)
  have HEC := hide (fun u hu => error_any a0 u hu)
  have HR : Hid (errB a0 = ((a0 == 3) || (a0 == 11) || (a0 == 12))) := rfl
  have HM : Hid (mtuB ⟨a0, a1, a2, ⟨#[]⟩⟩ = ((a0 == 3) && (a1 == 4))) := rfl
  have HN : Hid (mtuN ⟨a0, a1, a2, ⟨#[]⟩⟩ = if ((a0 == 3) && (a1 == 4)) = true then a2 % 65536 else 0) := rfl
  have HX := hide (examples_ok w hE)
  have HE := hide hE
  have ka := Oct.and_2 a2 r0 r1
  have kw := Oct.wraps_i64 a2 r0 (by omega)
  clear hE x0 x1 y0 y1 r0 r1
  rw [HM.out, HN.out] at HMC
  rw [HR.out] at HEC
  clear HM HN HR w0 w1 w2
  cases h3 : a0 == 3 with
  | true =>
    rw [h3] at HMC HEC
    cases h4 : a1 == 4 with
    | true =>
      rw [h4] at HMC
      simp only [Bool.and_self, if_true, Bool.true_or] at HMC HEC
      go_enter Tryd.func6, Tryd.ntmps6
      go_wp2_with fail
      refine (unhide HX).mono ?_
      rintro e v1 ⟨rfl, hb1⟩
      have HB := hide hb1
      clear hb1
      go_wp2_with fail
      refine (unhide HMC _ ((unhide HE).on (unhide HB))).mono ?_
      rintro e v2 ⟨rfl, hb2⟩
      have HB := hide (Below.then (unhide HB) hb2)
      clear hb2
      go_wp2_with fail
      refine (unhide HEC _ ((unhide HE).on (unhide HB))).mono ?_
      rintro e v3 ⟨rfl, hb3⟩
      have HB := hide (Below.then (unhide HB) hb3)
      clear hb3
      go_wp2_with fail
      go_ret
      exact ⟨rfl, unhide HB⟩
    | false =>
      rw [h4] at HMC
      simp only [Bool.and_false, Bool.true_or, Bool.false_eq_true, if_false] at HMC HEC
      go_enter Tryd.func6, Tryd.ntmps6
      go_wp2_with fail
      refine (unhide HX).mono ?_
      rintro e v1 ⟨rfl, hb1⟩
      have HB := hide hb1
      clear hb1
      go_wp2_with fail
      refine (unhide HMC _ ((unhide HE).on (unhide HB))).mono ?_
      rintro e v2 ⟨rfl, hb2⟩
      have HB := hide (Below.then (unhide HB) hb2)
      clear hb2
      go_wp2_with fail
      refine (unhide HEC _ ((unhide HE).on (unhide HB))).mono ?_
      rintro e v3 ⟨rfl, hb3⟩
      have HB := hide (Below.then (unhide HB) hb3)
      clear hb3
      go_wp2_with fail
      go_ret
      exact ⟨rfl, unhide HB⟩
  | false =>
    rw [h3] at HMC HEC
    simp only [Bool.false_and, Bool.false_or, Bool.false_eq_true, if_false] at HMC HEC
    cases h11 : a0 == 11 with
    | true =>
      rw [h11] at HEC
      simp only [Bool.true_or] at HEC
      go_enter Tryd.func6, Tryd.ntmps6
      go_wp2_with fail
      refine (unhide HX).mono ?_
      rintro e v1 ⟨rfl, hb1⟩
      have HB := hide hb1
      clear hb1
      go_wp2_with fail
      refine (unhide HMC _ ((unhide HE).on (unhide HB))).mono ?_
      rintro e v2 ⟨rfl, hb2⟩
      have HB := hide (Below.then (unhide HB) hb2)
      clear hb2
      go_wp2_with fail
      refine (unhide HEC _ ((unhide HE).on (unhide HB))).mono ?_
      rintro e v3 ⟨rfl, hb3⟩
      have HB := hide (Below.then (unhide HB) hb3)
      clear hb3
      go_wp2_with fail
      go_ret
      exact ⟨rfl, unhide HB⟩
    | false =>
      rw [h11] at HEC
      simp only [Bool.false_or] at HEC
      cases h12 : a0 == 12 with
      | true =>
        rw [h12] at HEC
        go_enter Tryd.func6, Tryd.ntmps6
        go_wp2_with fail
        refine (unhide HX).mono ?_
        rintro e v1 ⟨rfl, hb1⟩
        have HB := hide hb1
        clear hb1
        go_wp2_with fail
        refine (unhide HMC _ ((unhide HE).on (unhide HB))).mono ?_
        rintro e v2 ⟨rfl, hb2⟩
        have HB := hide (Below.then (unhide HB) hb2)
        clear hb2
        go_wp2_with fail
        refine (unhide HEC _ ((unhide HE).on (unhide HB))).mono ?_
        rintro e v3 ⟨rfl, hb3⟩
        have HB := hide (Below.then (unhide HB) hb3)
        clear hb3
        go_wp2_with fail
        go_ret
        exact ⟨rfl, unhide HB⟩
      | false =>
        rw [h12] at HEC
        go_enter Tryd.func6, Tryd.ntmps6
        go_wp2_with fail
        refine (unhide HX).mono ?_
        rintro e v1 ⟨rfl, hb1⟩
        have HB := hide hb1
        clear hb1
        go_wp2_with fail
        refine (unhide HMC _ ((unhide HE).on (unhide HB))).mono ?_
        rintro e v2 ⟨rfl, hb2⟩
        have HB := hide (Below.then (unhide HB) hb2)
        clear hb2
        go_wp2_with fail
        refine (unhide HEC _ ((unhide HE).on (unhide HB))).mono ?_
        rintro e v3 ⟨rfl, hb3⟩
        have HB := hide (Below.then (unhide HB) hb3)
        clear hb3
        go_wp2_with fail
        go_ret
        exact ⟨rfl, unhide HB⟩

theorem reads (os : Os) {H : Type} (enc : TypeId × Value → H) : DataW.whole enc Tryd.prog ((World.laidAll Tryd.prog os Rows.icmpBuildsRow.laid).forCall (fun _ _ => 0) ⟨#[], #[.int .i64 0, .int .i64 0, .int .u32 0], []⟩).memory Tryd.f6.params.toList Rows.icmpKindsSpec.vars false (#[.int .i64 0, .int .i64 0, .int .u32 0] : Array Value).toList 8 = some ([.lit (.int .i64 0), .lit (.int .i64 0), .lit (.int .u32 0)], [], []) := by kernel_rfl
set_option maxRecDepth 100000 in
theorem lifted (os : Os) (started : os.Started) (H : Type) (enc : TypeId × Value → H) (F : Stop.Interp) :
    ReturnsInHanded {} Tryd.checked os 6 .any ((OpenSpec.ofChange Rows.icmpKindsSpec).preRow enc Tryd.prog Tryd.f6 Rows.icmpKindsRow.domain false Rows.icmpKindsRow.laid) (((OpenSpec.ofChange Rows.icmpKindsSpec).at F).post enc Tryd.prog Tryd.f6 false true false false) := by
  refine returnsInHanded_of_row (C := Tryd.checked) (s := (OpenSpec.ofChange Rows.icmpKindsSpec)) own started (by kernel_rfl) Tryd.func6
    (witness_row_at (enc := enc) (C := Tryd.checked) false (World.laidAll Tryd.prog os Rows.icmpBuildsRow.laid) #[.int .i64 0, .int .i64 0, .int .u32 0] (World.laidAll_os _ _ _) (by kernel_rfl) (by kernel_rfl) (by kernel_rfl)
      (OpenSpec.preRow_of_cond 8 (reads os enc) (by kernel_rfl) (fun k hk => by cases hk) (by kernel_rfl) (laid_met os _))) ?_
  intro W base args ds gs before hval0 hW _ hcond hsz hL _ _
  have hval : ∀ (j : Nat) t v, Tryd.f6.params[j]? = some t → args[j]? = some v → Value.okWide Tryd.prog W .any base t v := hval0
  have hW' := hW
  obtain ⟨p, q, hA0, hV, rfl, hfz, hnd⟩ := hW
  have hA : DataW.TrodAll enc Tryd.prog W 0 (fun _ => true) true Tryd.f6.params.toList args.toList ds p := hA0
  rw [Tryd.params6] at hA hval
  obtain ⟨v0, vs0, d0, ds0, p0, q0, hargs, rfl, rfl, h0, r0⟩ := trodAll_cons hA
  obtain ⟨v1, vs1, d1, ds1, p1, q1, rfl, rfl, rfl, h1, r1⟩ := trodAll_cons r0
  obtain ⟨v2, vs2, d2, ds2, p2, q2, rfl, rfl, rfl, h2, r2⟩ := trodAll_cons r1
  obtain ⟨rfl, rfl, rfl⟩ := trodAll_nil r2
  obtain rfl : args = #[v0, v1, v2] := by cases args; simp_all
  obtain ⟨rfl, rfl⟩ := trodVars_none hV
  obtain ⟨a0, rfl, rfl, rfl, w0⟩ := open_int Tryd.underlying3 (hval 0 3 v0 rfl rfl) h0
  obtain ⟨a1, rfl, rfl, rfl, w1⟩ := open_int Tryd.underlying3 (hval 1 3 v1 rfl rfl) h1
  obtain ⟨a2, rfl, rfl, rfl, w2⟩ := open_int Tryd.underlying22 (hval 2 22 v2 rfl rfl) h2
  clear hA0 hval0
  simp only [List.append_nil] at hW'
  refine (walk W (env_of hL) a0 w0 a1 w1 a2 w2).mono fun e W' ⟨he, bel⟩ => ?_
  subst he
  exact ⟨_, rfl, _, _, _, [], _, [], hW', (trodAll_cons_mk (shut_bool Tryd.underlying4 _) trodAll_mk0), (trodAll_cons_mk (shut_int Tryd.underlying3 w0) (trodAll_cons_mk (shut_int Tryd.underlying3 w1) (trodAll_cons_mk (shut_int Tryd.underlying22 w2) trodAll_mk0))), rfl, bel.frame _, fun h => by cases h⟩

theorem over : Rows.icmpKindsRow.holds Tryd.pinned (OpenSpec.ofChange Rows.icmpKindsSpec) :=
  OpenClaim.holds_of_cond 6 Tryd.f6 rfl rfl rfl rfl rfl rfl rfl ⟨rfl, rfl, rfl, rfl, rfl⟩ rfl rfl rfl rfl rfl (by kernel_rfl) Tryd.func6 (by kernel_rfl)
    (of_decide_eq_true (by kernel_rfl)) (by unfold Func.isWrapper; first | (rw [if_pos (by decide +kernel)]; kernel_rfl) | (rw [if_neg (by decide +kernel)]; exact ⟨rfl, rfl⟩))
    (fun os started H enc _ F => by rw [OpenClaim.pre_eq_preRow]; exact lifted os started H enc F)

/-- No parameter wants a stand-in; the program's own looks are off. -/
theorem plain (f : FuncId) (fn : Func) (hf : Tryd.pinned.checked.prog.funcNamed Rows.icmpKindsRow.func = some f) (hfn : Tryd.pinned.checked.prog.funcs[f]? = some fn) :
    false = Tryd.pinned.checked.prog.looks [] ∧ ∀ (j : Nat) t, fn.params[j]? = some t → Tryd.pinned.checked.prog.wantsStandIn t = false := by
  obtain rfl : f = 6 := Option.some.inj ((show Tryd.prog.funcNamed Rows.icmpKindsRow.func = some 6 by kernel_rfl).symm.trans hf) |>.symm
  obtain rfl : fn = Tryd.f6 := (Option.some.inj (Tryd.func6.symm.trans hfn)).symm
  refine ⟨by kernel_rfl, fun j t ht => ?_⟩
  rw [Tryd.params6] at ht
  have hm : t ∈ [3, 3, 22] := by simpa using Array.mem_of_getElem? ht
  have hall : ([3, 3, 22].all fun u => !Tryd.prog.wantsStandIn u) = true := by kernel_rfl
  exact (show Tryd.prog.wantsStandIn t = false by simpa using List.all_eq_true.1 hall t hm)

theorem proved : Rows.IcmpKindsCardSaid :=
  Claim7.holds_tied_plain_at .later [] _ _ _ _ over (fun _ h => by cases h) (by kernel_rfl) (fun _ h => by cases h) icmpKinds_row_tie rfl ⟨rfl, rfl⟩ (by kernel_rfl) rfl plain (by kernel_rfl)
#print axioms proved
end Go.Proofs.YteggaeleehlhmaaDoor.icmpKinds
