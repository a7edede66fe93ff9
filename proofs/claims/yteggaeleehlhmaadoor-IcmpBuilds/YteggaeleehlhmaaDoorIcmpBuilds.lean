/- The law IcmpBuilds returns true for every message and every kind, and changes nothing that was there before, where the package's four variables hold what the program's own text lays in them; no condition but the form's own. -/
import Derived.Test.YteggaeleehlhmaaDoorIcLaid
import Derived.Test.YteggaeleehlhmaaDoorIcOpen
import Derived.Test.YteggaeleehlhmaaDoorIcEx
namespace Go.Proofs.YteggaeleehlhmaaDoor.icmpBuilds
open Go.ChangeShapes Go.WideShapes Go.ChangeAt Go.RowKit
open Go.ChangeMaps (open_string shut_string)
set_option linter.unusedVariables false
set_option maxHeartbeats 1000000 in
set_option maxRecDepth 100000 in
theorem walk (w : World) (hE : Env w) (a0 : Hd) (w0 : a0.Wf) (a1 : Int) (w1 : (Lit.int .i64 a1).wf = true) :
    Calls Tryd.prog 3 #[a0.val, .int .i64 a1] w fun e w' => e = .returned (.bool true) ∧ Below w.heap.size w w' := by
  have HBC := hide (fun u => build_any a0 u w0)
  have HRB := hide (fun u => rbuild_any a0 u w0)
  have HMC := hide (fun u hu => mtu_any a0 u w0 hu)
  have HRM := hide (fun u => rmtu_any a0 u w0)
  have HEC := hide (fun u hu => error_any a1 u hu)
  have HRE := hide (fun u => rerror_any a1 u)
  have HRF := hide (fun u => ref_any a0 u)
  have hk0 := kept_new w a0 24
  have HX := hide (fun u hu => examples_ok u hu)
  have HE := hide hE
  have HK := hide hk0
  clear hE hk0 w0 w1
  generalize buildS a0 = BS at *
  generalize buildE a0 = BE at *
  generalize mtuN a0 = MN at *
  generalize mtuB a0 = MB at *
  generalize errB a1 = EB at *
  go_enter Tryd.func3, Tryd.ntmps3
  go_wp2_with fail
  refine (unhide HX _ ((unhide HE).on (unhide HK).below)).mono ?_
  rintro e v1 ⟨rfl, hb1⟩
  have hk1 := (unhide HK).on hb1
  obtain ⟨c0, c1, c2, c3⟩ := hk1.cells
  have HK := hide hk1
  clear hb1 hk1
  go_wp2_with fail
  refine (unhide HBC _).mono ?_
  rintro e v2 ⟨rfl, hb2⟩
  have hk2 := (unhide HK).on hb2
  clear c0 c1 c2 c3
  obtain ⟨c0, c1, c2, c3⟩ := hk2.cells
  have HK := hide hk2
  clear hb2 hk2
  go_wp2_with fail
  refine (unhide HRF _).mono ?_
  rintro e v3 ⟨rfl, hb3⟩
  have hk3 := (unhide HK).on hb3
  clear c0 c1 c2 c3
  have HK := hide hk3
  clear hb3 hk3
  go_wp2_with fail
  refine (unhide HRB _).mono ?_
  rintro e v4 ⟨rfl, hb4⟩
  have hk4 := (unhide HK).on hb4
  obtain ⟨c0, c1, c2, c3⟩ := hk4.cells
  have HK := hide hk4
  clear hb4 hk4
  go_wp2_with fail
  refine (unhide HMC _ ((unhide HE).on (unhide HK).below)).mono ?_
  rintro e v5 ⟨rfl, hb5⟩
  have hk5 := (unhide HK).on hb5
  clear c0 c1 c2 c3
  obtain ⟨c0, c1, c2, c3⟩ := hk5.cells
  have HK := hide hk5
  clear hb5 hk5
  go_wp2_with fail
  refine (unhide HRF _).mono ?_
  rintro e v6 ⟨rfl, hb6⟩
  have hk6 := (unhide HK).on hb6
  clear c0 c1 c2 c3
  have HK := hide hk6
  clear hb6 hk6
  go_wp2_with fail
  refine (unhide HRM _).mono ?_
  rintro e v7 ⟨rfl, hb7⟩
  have hk7 := (unhide HK).on hb7
  have HK := hide hk7
  clear hb7 hk7
  go_wp2_with fail
  refine (unhide HEC _ ((unhide HE).on (unhide HK).below)).mono ?_
  rintro e v8 ⟨rfl, hb8⟩
  have hk8 := (unhide HK).on hb8
  have HK := hide hk8
  clear hb8 hk8
  go_wp2_with fail
  refine (unhide HRE _).mono ?_
  rintro e v9 ⟨rfl, rfl⟩
  go_wp2_with fail
  go_ret
  exact ⟨rfl, (unhide HK).below⟩

theorem reads (os : Os) {H : Type} (enc : TypeId × Value → H) : DataW.whole enc Tryd.prog ((World.laidAll Tryd.prog os Rows.icmpBuildsRow.laid).forCall (fun _ _ => 0) ⟨#[], #[.agg #[.int .i64 0, .int .i64 0, .int .u32 0, .string ByteArray.empty], .int .i64 0], []⟩).memory Tryd.f3.params.toList Rows.icmpBuildsSpec.vars false (#[.agg #[.int .i64 0, .int .i64 0, .int .u32 0, .string ByteArray.empty], .int .i64 0] : Array Value).toList 8 = some ([.agg [.lit (.int .i64 0), .lit (.int .i64 0), .lit (.int .u32 0), .lit (.string [])], .lit (.int .i64 0)], [], []) := by kernel_rfl
set_option maxRecDepth 100000 in
theorem lifted (os : Os) (started : os.Started) (H : Type) (enc : TypeId × Value → H) (F : Stop.Interp) :
    ReturnsInHanded {} Tryd.checked os 3 .any ((OpenSpec.ofChange Rows.icmpBuildsSpec).preRow enc Tryd.prog Tryd.f3 Rows.icmpBuildsRow.domain false Rows.icmpBuildsRow.laid) (((OpenSpec.ofChange Rows.icmpBuildsSpec).at F).post enc Tryd.prog Tryd.f3 false true false false) := by
  refine returnsInHanded_of_row (C := Tryd.checked) (s := (OpenSpec.ofChange Rows.icmpBuildsSpec)) own started (by kernel_rfl) Tryd.func3
    (witness_row_at (enc := enc) (C := Tryd.checked) false (World.laidAll Tryd.prog os Rows.icmpBuildsRow.laid) #[.agg #[.int .i64 0, .int .i64 0, .int .u32 0, .string ByteArray.empty], .int .i64 0] (World.laidAll_os _ _ _) (by kernel_rfl) (by kernel_rfl) (by kernel_rfl)
      (OpenSpec.preRow_of_cond 8 (reads os enc) (by kernel_rfl) (fun k hk => by cases hk) (by kernel_rfl) (laid_met os _))) ?_
  intro W base args ds gs before hval0 hW _ hcond hsz hL _ _
  have hval : ∀ (j : Nat) t v, Tryd.f3.params[j]? = some t → args[j]? = some v → Value.okWide Tryd.prog W .any base t v := hval0
  have hW' := hW
  obtain ⟨p, q, hA0, hV, rfl, hfz, hnd⟩ := hW
  have hA : DataW.TrodAll enc Tryd.prog W 0 (fun _ => true) true Tryd.f3.params.toList args.toList ds p := hA0
  rw [Tryd.params3] at hA hval
  obtain ⟨v0, vs0, d0, ds0, p0, q0, hargs, rfl, rfl, h0, r0⟩ := trodAll_cons hA
  obtain ⟨v1, vs1, d1, ds1, p1, q1, rfl, rfl, rfl, h1, r1⟩ := trodAll_cons r0
  obtain ⟨rfl, rfl, rfl⟩ := trodAll_nil r1
  obtain rfl : args = #[v0, v1] := by cases args; simp_all
  obtain ⟨rfl, rfl⟩ := trodVars_none hV
  obtain ⟨a0, rfl, rfl, rfl, f0⟩ := open_head (hval 0 24 v0 rfl rfl) h0
  obtain ⟨a1, rfl, rfl, rfl, w1⟩ := open_int Tryd.underlying3 (hval 1 3 v1 rfl rfl) h1
  clear hA0 hval0
  simp only [List.append_nil] at hW'
  have w0 : a0.Wf := f0.wf (sized_head hsz (j := 0) rfl rfl)
  refine (walk W (env_of hL) a0 w0 a1 w1).mono fun e W' ⟨he, bel⟩ => ?_
  subst he
  exact ⟨_, rfl, _, _, _, [], _, [], hW', (trodAll_cons_mk (shut_bool Tryd.underlying4 _) trodAll_mk0), (trodAll_cons_mk (shut_head a0 f0) (trodAll_cons_mk (shut_int Tryd.underlying3 w1) trodAll_mk0)), rfl, bel.frame _, fun h => by cases h⟩

theorem over : Rows.icmpBuildsRow.holds Tryd.pinned (OpenSpec.ofChange Rows.icmpBuildsSpec) :=
  OpenClaim.holds_of_cond 3 Tryd.f3 rfl rfl rfl rfl rfl rfl rfl ⟨rfl, rfl, rfl, rfl, rfl⟩ rfl rfl rfl rfl rfl (by kernel_rfl) Tryd.func3 (by kernel_rfl)
    (of_decide_eq_true (by kernel_rfl)) (by unfold Func.isWrapper; first | (rw [if_pos (by decide +kernel)]; kernel_rfl) | (rw [if_neg (by decide +kernel)]; exact ⟨rfl, rfl⟩))
    (fun os started H enc _ F => by rw [OpenClaim.pre_eq_preRow]; exact lifted os started H enc F)

/-- No parameter wants a stand-in; the program's own looks are off. -/
theorem plain (f : FuncId) (fn : Func) (hf : Tryd.pinned.checked.prog.funcNamed Rows.icmpBuildsRow.func = some f) (hfn : Tryd.pinned.checked.prog.funcs[f]? = some fn) :
    false = Tryd.pinned.checked.prog.looks [] ∧ ∀ (j : Nat) t, fn.params[j]? = some t → Tryd.pinned.checked.prog.wantsStandIn t = false := by
  obtain rfl : f = 3 := Option.some.inj ((show Tryd.prog.funcNamed Rows.icmpBuildsRow.func = some 3 by kernel_rfl).symm.trans hf) |>.symm
  obtain rfl : fn = Tryd.f3 := (Option.some.inj (Tryd.func3.symm.trans hfn)).symm
  refine ⟨by kernel_rfl, fun j t ht => ?_⟩
  rw [Tryd.params3] at ht
  have hm : t ∈ [24, 3] := by simpa using Array.mem_of_getElem? ht
  have hall : ([24, 3].all fun u => !Tryd.prog.wantsStandIn u) = true := by kernel_rfl
  exact (show Tryd.prog.wantsStandIn t = false by simpa using List.all_eq_true.1 hall t hm)

theorem proved : Rows.IcmpBuildsCardSaid :=
  Claim7.holds_tied_plain_at .later [] _ _ _ _ over (fun _ h => by cases h) (by kernel_rfl) (fun _ h => by cases h) icmpBuilds_row_tie rfl ⟨rfl, rfl⟩ (by kernel_rfl) rfl plain (by kernel_rfl)
#print axioms proved
end Go.Proofs.YteggaeleehlhmaaDoor.icmpBuilds
