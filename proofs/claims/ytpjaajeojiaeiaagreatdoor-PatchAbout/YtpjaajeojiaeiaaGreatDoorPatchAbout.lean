/- PatchAbout: any message about a packet, with a byte another one or not, gets any ends, outside and inside, as the reference says, or is refused; under the given ties of the package's listed variables. -/
import Derived.Test.YtpjaajeojiaeiaaGreatDoorPpLaid
import Derived.Test.YtpjaajeojiaeiaaGreatDoorPkOpM
import Derived.Test.YtpjaajeojiaeiaaGreatDoorPpOpE
import Derived.Test.YtpjaajeojiaeiaaGreatDoorPpC
import Derived.Test.YtpjaajeojiaeiaaGreatDoorPkBrk
import Derived.Test.YtpjaajeojiaeiaaGreatDoorPpRef
import Derived.Test.YtpjaajeojiaeiaaGreatDoorPpRAb
namespace Go.Proofs.YtpjaajeojiaeiaaGreatDoor.patchAbout
open Go.ChangeShapes Go.WideShapes Go.ChangeAt Go.RowKit
open Go.ChangeMaps (open_string shut_string)
open MO
set_option linter.unusedVariables false
theorem add_run9 (x y : ByteArray) (hx : x.size ≤ 140737488355328) (hy : y.size ≤ 140737488355328) : ∀ wx, (Op.stringOp .add x y).run Tryz.prog wx = .ok (.string (x ++ y)) wx := fun wx => run_string_add_sum (P := Tryz.prog) (w := wx) x y (by omega)
set_option maxHeartbeats 8000000 in
set_option maxRecDepth 100000 in
theorem walk (w : World) (hE : Ic.Env w) (a0 : Mk) (w0 : a0.Wf) (a1 : Int) (w1 : (Lit.int .i64 a1).wf = true) (a2 : Int) (w2 : (Lit.int .u8 a2).wf = true) (a3 : Int) (w3 : (Lit.int .u32 a3).wf = true) (a4 : Int) (w4 : (Lit.int .u32 a4).wf = true) (a5 : En) (w5 : Ps.U32 a5.src ∧ Ps.U32 a5.dst) (a6 : ByteArray) (z6 : a6.size ≤ 140737488355328) :
  Calls Tryz.prog 4 #[a0.val, .int .i64 a1, .int .u8 a2, .int .u32 a3, .int .u32 a4, a5.val, .string a6] w fun e w' => e = .returned (.bool true) ∧ Below w.heap.size w w' := by
 have KE := hide (fun u h => examples_any u h)
 have FA := hide (fun u => frame_any a0 u w0)
 obtain ⟨sz1, sz2⟩ := frame_size w0
 have BA := hide (fun u => broken_any (frameS a0) a1 a2 u (by omega) (by omega) (bounds_i64 w1))
 generalize frameS a0 = F at *
 have r0 := (row_new w a0.cells 25).on' (alloc_on' _ (.cells a5.cells.toArray 27))
 have re := row_new (w.alloc (.cells a0.cells.toArray 25)) a5.cells 27
 have bel := Below.then (alloc_on' w (.cells a0.cells.toArray 25)) (alloc_on' _ (.cells a5.cells.toArray 27))
 rw [show (w.alloc (.cells a0.cells.toArray 25)).heap.size = w.heap.size + 1 by simp] at re
 go_enter Tryz.func4, Tryz.ntmps4
 go_wp2_with fail
 refine (unhide KE _ (hE.on bel)).mono ?_
 rintro e v1 ⟨rfl, hb⟩
 replace r0 := r0.on' hb
 replace re := re.on' hb
 replace bel := Below.then bel hb
 clear hb
 have r0c0 := r0.cell 0 _ rfl
 have r0c1 := r0.cell 1 _ rfl
 have r0c2 := r0.cell 2 _ rfl
 have r0c3 := r0.cell 3 _ rfl
 have r0c4 := r0.cell 4 _ rfl
 have r0c5 := r0.cell 5 _ rfl
 have r0c6 := r0.cell 6 _ rfl
 have r0c7 := r0.cell 7 _ rfl
 have r0c8 := r0.cell 8 _ rfl
 have r0c9 := r0.cell 9 _ rfl
 have r0c10 := r0.cell 10 _ rfl
 go_wp2_with fail
 refine (unhide FA _).mono ?_
 rintro e v2 ⟨rfl, hb⟩
 replace r0 := r0.on' hb
 replace re := re.on' hb
 replace bel := Below.then bel hb
 clear r0c0 r0c1 r0c2 r0c3 r0c4 r0c5 r0c6 r0c7 r0c8 r0c9 r0c10
 clear hb
 go_wp2_with fail
 refine (unhide BA _).mono ?_
 rintro e v3 ⟨t, rfl, hts, hb⟩
 replace r0 := r0.on' hb
 replace re := re.on' hb
 replace bel := Below.then bel hb
 clear hb
 have ad := add_run9 t a6 (by omega) (by omega)
 have hsz : (t ++ a6).size ≤ 140737488360000 := by rw [ByteArray.size_append]; omega
 clear hts
 generalize t ++ a6 = S at *
 have PA := hide (fun u h => about_any S a3 a4 a5 u hsz (bounds_u32 w3) (bounds_u32 w4) w5 h)
 have PR := hide (fun u => rpabout_any S a3 a4 a5 u hsz (bounds_u32 w3) (bounds_u32 w4) w5)
 have RF := hide (fun u => lref_any a5 u)
 generalize aboutS S a3 a4 a5 = R at *
 generalize alwE S 2 a5 = x at *
 have rec0 := re.cell 0 _ rfl
 have rec1 := re.cell 1 _ rfl
 have rec2 := re.cell 2 _ rfl
 have rec3 := re.cell 3 _ rfl
 go_wp2_with fail
 refine (unhide PA _ (hE.on bel)).mono ?_
 rintro e v4 ⟨rfl, hb⟩
 replace r0 := r0.on' hb
 replace re := re.on' hb
 replace bel := Below.then bel hb
 clear rec0 rec1 rec2 rec3
 clear hb
 have rec0 := re.cell 0 _ rfl
 have rec1 := re.cell 1 _ rfl
 have rec2 := re.cell 2 _ rfl
 have rec3 := re.cell 3 _ rfl
 go_wp2_with fail
 refine (unhide RF _).mono ?_
 rintro e v5 ⟨rfl, hb⟩
 replace r0 := r0.on' hb
 replace re := re.on' hb
 replace bel := Below.then bel hb
 clear rec0 rec1 rec2 rec3
 clear hb
 go_wp2_with fail
 refine (unhide PR _).mono ?_
 rintro e v6 ⟨rfl, hb⟩
 replace r0 := r0.on' hb
 replace re := re.on' hb
 replace bel := Below.then bel hb
 clear hb
 go_wp2_with fail
 go_ret
 exact ⟨rfl, bel⟩

theorem reads (os : Os) {H : Type} (enc : TypeId × Value → H) : DataW.whole enc Tryz.prog ((World.laidAll Tryz.prog os Rows.patchBackRow.laid).forCall (fun _ _ => 0) ⟨#[], #[.agg #[.int .u8 0, .int .u32 0, .int .u32 0, .int .u16 0, .int .u16 0, .int .u8 0, .int .u8 0, .string ByteArray.empty, .bool false, .int .u32 0, .int .u32 0], .int .i64 0, .int .u8 0, .int .u32 0, .int .u32 0, .agg #[.int .u32 0, .int .u32 0, .int .i64 0, .int .i64 0], .string ByteArray.empty], []⟩).memory Tryz.f4.params.toList Rows.patchAboutSpec.vars false (#[.agg #[.int .u8 0, .int .u32 0, .int .u32 0, .int .u16 0, .int .u16 0, .int .u8 0, .int .u8 0, .string ByteArray.empty, .bool false, .int .u32 0, .int .u32 0], .int .i64 0, .int .u8 0, .int .u32 0, .int .u32 0, .agg #[.int .u32 0, .int .u32 0, .int .i64 0, .int .i64 0], .string ByteArray.empty] : Array Value).toList 8 = some ([.agg [.lit (.int .u8 0), .lit (.int .u32 0), .lit (.int .u32 0), .lit (.int .u16 0), .lit (.int .u16 0), .lit (.int .u8 0), .lit (.int .u8 0), .lit (.string []), .lit (.bool false), .lit (.int .u32 0), .lit (.int .u32 0)], .lit (.int .i64 0), .lit (.int .u8 0), .lit (.int .u32 0), .lit (.int .u32 0), .agg [.lit (.int .u32 0), .lit (.int .u32 0), .lit (.int .i64 0), .lit (.int .i64 0)], .lit (.string [])], [], []) := by kernel_rfl
set_option maxRecDepth 100000 in
theorem lifted (os : Os) (started : os.Started) (H : Type) (enc : TypeId × Value → H) (F : Stop.Interp) :
  ReturnsInHanded {} Tryz.checked os 4 .any ((OpenSpec.ofChange Rows.patchAboutSpec).preRow enc Tryz.prog Tryz.f4 Rows.patchAboutRow.domain false Rows.patchAboutRow.laid) (((OpenSpec.ofChange Rows.patchAboutSpec).at F).post enc Tryz.prog Tryz.f4 false true false false) := by
 refine returnsInHanded_of_row (C := Tryz.checked) (s := (OpenSpec.ofChange Rows.patchAboutSpec)) own started (by kernel_rfl) Tryz.func4
  (witness_row_at (enc := enc) (C := Tryz.checked) false (World.laidAll Tryz.prog os Rows.patchBackRow.laid) #[.agg #[.int .u8 0, .int .u32 0, .int .u32 0, .int .u16 0, .int .u16 0, .int .u8 0, .int .u8 0, .string ByteArray.empty, .bool false, .int .u32 0, .int .u32 0], .int .i64 0, .int .u8 0, .int .u32 0, .int .u32 0, .agg #[.int .u32 0, .int .u32 0, .int .i64 0, .int .i64 0], .string ByteArray.empty] (World.laidAll_os _ _ _) (by kernel_rfl) (by kernel_rfl) (by kernel_rfl)
   (OpenSpec.preRow_of_cond 8 (reads os enc) (by kernel_rfl) (fun k hk => by cases hk) (by kernel_rfl) (laid_met os _))) ?_
 intro W base args ds gs before hval0 hW _ hcond hsz hL _ _
 have hval : ∀ (j : Nat) t v, Tryz.f4.params[j]? = some t → args[j]? = some v → Value.okWide Tryz.prog W .any base t v := hval0
 have hW' := hW
 obtain ⟨p, q, hA0, hV, rfl, hfz, hnd⟩ := hW
 have hA : DataW.TrodAll enc Tryz.prog W 0 (fun _ => true) true Tryz.f4.params.toList args.toList ds p := hA0
 rw [Tryz.params4] at hA hval
 obtain ⟨v0, vs0, d0, ds0, p0, q0, hargs, rfl, rfl, h0, r0⟩ := trodAll_cons hA
 obtain ⟨v1, vs1, d1, ds1, p1, q1, rfl, rfl, rfl, h1, r1⟩ := trodAll_cons r0
 obtain ⟨v2, vs2, d2, ds2, p2, q2, rfl, rfl, rfl, h2, r2⟩ := trodAll_cons r1
 obtain ⟨v3, vs3, d3, ds3, p3, q3, rfl, rfl, rfl, h3, r3⟩ := trodAll_cons r2
 obtain ⟨v4, vs4, d4, ds4, p4, q4, rfl, rfl, rfl, h4, r4⟩ := trodAll_cons r3
 obtain ⟨v5, vs5, d5, ds5, p5, q5, rfl, rfl, rfl, h5, r5⟩ := trodAll_cons r4
 obtain ⟨v6, vs6, d6, ds6, p6, q6, rfl, rfl, rfl, h6, r6⟩ := trodAll_cons r5
 obtain ⟨rfl, rfl, rfl⟩ := trodAll_nil r6
 obtain rfl : args = #[v0, v1, v2, v3, v4, v5, v6] := by cases args; simp_all
 obtain ⟨rfl, rfl⟩ := trodVars_none hV
 obtain ⟨a0, rfl, rfl, rfl, f0⟩ := open_head (hval 0 25 v0 rfl rfl) h0
 obtain ⟨a1, rfl, rfl, rfl, w1⟩ := open_int Tryz.underlying3 (hval 1 3 v1 rfl rfl) h1
 obtain ⟨a2, rfl, rfl, rfl, w2⟩ := open_int Tryz.underlying5 (hval 2 5 v2 rfl rfl) h2
 obtain ⟨a3, rfl, rfl, rfl, w3⟩ := open_int Tryz.underlying22 (hval 3 22 v3 rfl rfl) h3
 obtain ⟨a4, rfl, rfl, rfl, w4⟩ := open_int Tryz.underlying22 (hval 4 22 v4 rfl rfl) h4
 obtain ⟨a5, rfl, rfl, rfl, f5⟩ := EO.open_head (hval 5 27 v5 rfl rfl) h5
 obtain ⟨a6, rfl, rfl, rfl, w6⟩ := open_string Tryz.underlying9 (hval 6 9 v6 rfl rfl) h6
 clear hA0 hval0
 simp only [List.append_nil] at hW'
 have w0 : a0.Wf := f0.wf (sized_head hsz (j := 0) rfl rfl)
 have w5 := f5.u32
 have z6 : a6.size ≤ 140737488355328 := by
  have hq : a6.data.toList.length ≤ reachBytes := sized_string hsz (j := 6) (t := 9) rfl rfl
  have e : a6.data.toList.length = a6.size := by rw [Array.length_toList]; rfl
  rw [e] at hq
  exact Nat.le_trans hq (by decide)
 refine (walk W (env_of hL) a0 w0 a1 w1 a2 w2 a3 w3 a4 w4 a5 w5 a6 z6).mono fun e W' ⟨he, bel⟩ => ?_
 subst he
 exact ⟨_, rfl, _, _, _, [], _, [], hW', (trodAll_cons_mk (shut_bool Tryz.underlying4 _) trodAll_mk0), (trodAll_cons_mk (shut_head a0 f0) (trodAll_cons_mk (shut_int Tryz.underlying3 w1) (trodAll_cons_mk (shut_int Tryz.underlying5 w2) (trodAll_cons_mk (shut_int Tryz.underlying22 w3) (trodAll_cons_mk (shut_int Tryz.underlying22 w4) (trodAll_cons_mk (EO.shut_head a5 f5) (trodAll_cons_mk (shut_string Tryz.underlying9 w6) trodAll_mk0))))))), rfl, bel.frame _, fun h => by cases h⟩

theorem over : Rows.patchAboutRow.holds Tryz.pinned (OpenSpec.ofChange Rows.patchAboutSpec) :=
 OpenClaim.holds_of_cond 4 Tryz.f4 rfl rfl rfl rfl rfl rfl rfl ⟨rfl, rfl, rfl, rfl, rfl⟩ rfl rfl rfl rfl rfl (by kernel_rfl) Tryz.func4 (by kernel_rfl)
  (of_decide_eq_true (by kernel_rfl)) (by unfold Func.isWrapper; first | (rw [if_pos (by decide +kernel)]; kernel_rfl) | (rw [if_neg (by decide +kernel)]; exact ⟨rfl, rfl⟩))
  (fun os started H enc _ F => by rw [OpenClaim.pre_eq_preRow]; exact lifted os started H enc F)

/-- No parameter wants a stand-in; the program's own looks are off. -/
theorem plain (f : FuncId) (fn : Func) (hf : Tryz.pinned.checked.prog.funcNamed Rows.patchAboutRow.func = some f) (hfn : Tryz.pinned.checked.prog.funcs[f]? = some fn) :
  false = Tryz.pinned.checked.prog.looks [] ∧ ∀ (j : Nat) t, fn.params[j]? = some t → Tryz.pinned.checked.prog.wantsStandIn t = false := by
 obtain rfl : f = 4 := Option.some.inj ((show Tryz.prog.funcNamed Rows.patchAboutRow.func = some 4 by kernel_rfl).symm.trans hf) |>.symm
 obtain rfl : fn = Tryz.f4 := (Option.some.inj (Tryz.func4.symm.trans hfn)).symm
 refine ⟨by kernel_rfl, fun j t ht => ?_⟩
 rw [Tryz.params4] at ht
 have hm : t ∈ [25, 3, 5, 22, 22, 27, 9] := by simpa using Array.mem_of_getElem? ht
 have hall : ([25, 3, 5, 22, 22, 27, 9].all fun u => !Tryz.prog.wantsStandIn u) = true := by kernel_rfl
 exact (show Tryz.prog.wantsStandIn t = false by simpa using List.all_eq_true.1 hall t hm)

theorem proved : Rows.PatchAboutCardSaid :=
 Claim7.holds_tied_plain_at .later [] _ _ _ _ over (fun _ h => by cases h) (by kernel_rfl) (fun _ h => by cases h) patchAbout_row_tie rfl ⟨rfl, rfl⟩ (by kernel_rfl) rfl plain (by kernel_rfl)
#print axioms proved
end Go.Proofs.YtpjaajeojiaeiaaGreatDoor.patchAbout
