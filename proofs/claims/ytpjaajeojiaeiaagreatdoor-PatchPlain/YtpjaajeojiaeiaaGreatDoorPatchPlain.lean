/- PatchPlain: any packet, with a byte another one or not, gets any ends as the reference says, or is refused; under the given ties of the package's listed variables. -/
import Derived.Test.YtpjaajeojiaeiaaGreatDoorPpLaid
import Derived.Test.YtpjaajeojiaeiaaGreatDoorPkOpM
import Derived.Test.YtpjaajeojiaeiaaGreatDoorPpOpE
import Derived.Test.YtpjaajeojiaeiaaGreatDoorPpC
import Derived.Test.YtpjaajeojiaeiaaGreatDoorPkBrk
import Derived.Test.YtpjaajeojiaeiaaGreatDoorPpD
namespace Go.Proofs.YtpjaajeojiaeiaaGreatDoor.patchPlain
open Go.ChangeShapes Go.WideShapes Go.ChangeAt Go.RowKit
open Go.ChangeMaps (open_string shut_string)
open MO
set_option linter.unusedVariables false
theorem add_run9 (x y : ByteArray) (hx : x.size ≤ 140737488355328) (hy : y.size ≤ 140737488355328) : ∀ wx, (Op.stringOp .add x y).run Tryz.prog wx = .ok (.string (x ++ y)) wx := fun wx => run_string_add_sum (P := Tryz.prog) (w := wx) x y (by omega)
set_option maxHeartbeats 8000000 in
set_option maxRecDepth 100000 in
theorem walk (w : World) (hE : Ic.Env w) (a0 : Mk) (w0 : a0.Wf) (a1 : Int) (w1 : (Lit.int .i64 a1).wf = true) (a2 : Int) (w2 : (Lit.int .u8 a2).wf = true) (a3 : En) (w3 : Ps.U32 a3.src ∧ Ps.U32 a3.dst) (a4 : ByteArray) (z4 : a4.size ≤ 140737488355328) :
    Calls Tryz.prog 3 #[a0.val, .int .i64 a1, .int .u8 a2, a3.val, .string a4] w fun e w' => e = .returned (.bool true) ∧ Below w.heap.size w w' := by
  have KE := hide (fun u h => examples_any u h)
  have FA := hide (fun u => frame_any a0 u w0)
  obtain ⟨sz1, sz2⟩ := frame_size w0
  have BA := hide (fun u => broken_any (frameS a0) a1 a2 u (by omega) (by omega) (bounds_i64 w1))
  generalize frameS a0 = F at *
  have r0 := (row_new w a0.cells 25).on' (alloc_on' _ (.cells a3.cells.toArray 27))
  have re := row_new (w.alloc (.cells a0.cells.toArray 25)) a3.cells 27
  have bel := Below.then (alloc_on' w (.cells a0.cells.toArray 25)) (alloc_on' _ (.cells a3.cells.toArray 27))
  rw [show (w.alloc (.cells a0.cells.toArray 25)).heap.size = w.heap.size + 1 by simp] at re
  go_enter Tryz.func3, Tryz.ntmps3
  go_wp2_with fail
  refine (unhide KE _ (hE.on bel)).mono ?_
  rintro e v1 ⟨rfl, hb⟩
  replace r0 := r0.on' hb
  replace re := re.on' hb
  replace bel := Below.then bel hb
  clear hb
  have r0c0 := r0.cell 0 _ rfl
  have r0c1 := r0.cell 1 _ rfl
  have r0c2 := r0.cell 2 _ rfl
  have r0c3 := r0.cell 3 _ rfl
  have r0c4 := r0.cell 4 _ rfl
  have r0c5 := r0.cell 5 _ rfl
  have r0c6 := r0.cell 6 _ rfl
  have r0c7 := r0.cell 7 _ rfl
  have r0c8 := r0.cell 8 _ rfl
  have r0c9 := r0.cell 9 _ rfl
  have r0c10 := r0.cell 10 _ rfl
  go_wp2_with fail
  refine (unhide FA _).mono ?_
  rintro e v2 ⟨rfl, hb⟩
  replace r0 := r0.on' hb
  replace re := re.on' hb
  replace bel := Below.then bel hb
  clear r0c0 r0c1 r0c2 r0c3 r0c4 r0c5 r0c6 r0c7 r0c8 r0c9 r0c10
  clear hb
  go_wp2_with fail
  refine (unhide BA _).mono ?_
  rintro e v3 ⟨t, rfl, hts, hb⟩
  replace r0 := r0.on' hb
  replace re := re.on' hb
  replace bel := Below.then bel hb
  clear hb
  have ad := add_run9 t a4 (by omega) (by omega)
  have hsz : (t ++ a4).size ≤ 140737488360000 := by rw [ByteArray.size_append]; omega
  clear hts
  generalize t ++ a4 = S at *
  have PA := hide (fun u h => plain_any S a3 u hsz w3 h)
  have PR := hide (fun u => rplain_any S a3 u hsz w3)
  have RF := hide (fun u => lref_any a3 u)
  generalize plainS S a3 = R at *
  generalize alwE S 1 a3 = x at *
  have rec0 := re.cell 0 _ rfl
  have rec1 := re.cell 1 _ rfl
  have rec2 := re.cell 2 _ rfl
  have rec3 := re.cell 3 _ rfl
  go_wp2_with fail
  refine (unhide PA _ (hE.on bel)).mono ?_
  rintro e v4 ⟨rfl, hb⟩
  replace r0 := r0.on' hb
  replace re := re.on' hb
  replace bel := Below.then bel hb
  clear rec0 rec1 rec2 rec3
  clear hb
  have rec0 := re.cell 0 _ rfl
  have rec1 := re.cell 1 _ rfl
  have rec2 := re.cell 2 _ rfl
  have rec3 := re.cell 3 _ rfl
  go_wp2_with fail
  refine (unhide RF _).mono ?_
  rintro e v5 ⟨rfl, hb⟩
  replace r0 := r0.on' hb
  replace re := re.on' hb
  replace bel := Below.then bel hb
  clear rec0 rec1 rec2 rec3
  clear hb
  go_wp2_with fail
  refine (unhide PR _).mono ?_
  rintro e v6 ⟨rfl, hb⟩
  replace r0 := r0.on' hb
  replace re := re.on' hb
  replace bel := Below.then bel hb
  clear hb
  go_wp2_with fail
  go_ret
  exact ⟨rfl, bel⟩

theorem reads (os : Os) {H : Type} (enc : TypeId × Value → H) : DataW.whole enc Tryz.prog ((World.laidAll Tryz.prog os Rows.patchBackRow.laid).forCall (fun _ _ => 0) ⟨#[], #[.agg #[.int .u8 0, .int .u32 0, .int .u32 0, .int .u16 0, .int .u16 0, .int .u8 0, .int .u8 0, .string ByteArray.empty, .bool false, .int .u32 0, .int .u32 0], .int .i64 0, .int .u8 0, .agg #[.int .u32 0, .int .u32 0, .int .i64 0, .int .i64 0], .string ByteArray.empty], []⟩).memory Tryz.f3.params.toList Rows.patchPlainSpec.vars false (#[.agg #[.int .u8 0, .int .u32 0, .int .u32 0, .int .u16 0, .int .u16 0, .int .u8 0, .int .u8 0, .string ByteArray.empty, .bool false, .int .u32 0, .int .u32 0], .int .i64 0, .int .u8 0, .agg #[.int .u32 0, .int .u32 0, .int .i64 0, .int .i64 0], .string ByteArray.empty] : Array Value).toList 8 = some ([.agg [.lit (.int .u8 0), .lit (.int .u32 0), .lit (.int .u32 0), .lit (.int .u16 0), .lit (.int .u16 0), .lit (.int .u8 0), .lit (.int .u8 0), .lit (.string []), .lit (.bool false), .lit (.int .u32 0), .lit (.int .u32 0)], .lit (.int .i64 0), .lit (.int .u8 0), .agg [.lit (.int .u32 0), .lit (.int .u32 0), .lit (.int .i64 0), .lit (.int .i64 0)], .lit (.string [])], [], []) := by kernel_rfl
set_option maxRecDepth 100000 in
theorem lifted (os : Os) (started : os.Started) (H : Type) (enc : TypeId × Value → H) (F : Stop.Interp) :
    ReturnsInHanded {} Tryz.checked os 3 .any ((OpenSpec.ofChange Rows.patchPlainSpec).preRow enc Tryz.prog Tryz.f3 Rows.patchPlainRow.domain false Rows.patchPlainRow.laid) (((OpenSpec.ofChange Rows.patchPlainSpec).at F).post enc Tryz.prog Tryz.f3 false true false false) := by
  refine returnsInHanded_of_row (C := Tryz.checked) (s := (OpenSpec.ofChange Rows.patchPlainSpec)) own started (by kernel_rfl) Tryz.func3
    (witness_row_at (enc := enc) (C := Tryz.checked) false (World.laidAll Tryz.prog os Rows.patchBackRow.laid) #[.agg #[.int .u8 0, .int .u32 0, .int .u32 0, .int .u16 0, .int .u16 0, .int .u8 0, .int .u8 0, .string ByteArray.empty, .bool false, .int .u32 0, .int .u32 0], .int .i64 0, .int .u8 0, .agg #[.int .u32 0, .int .u32 0, .int .i64 0, .int .i64 0], .string ByteArray.empty] (World.laidAll_os _ _ _) (by kernel_rfl) (by kernel_rfl) (by kernel_rfl)
      (OpenSpec.preRow_of_cond 8 (reads os enc) (by kernel_rfl) (fun k hk => by cases hk) (by kernel_rfl) (laid_met os _))) ?_
  intro W base args ds gs before hval0 hW _ hcond hsz hL _ _
  have hval : ∀ (j : Nat) t v, Tryz.f3.params[j]? = some t → args[j]? = some v → Value.okWide Tryz.prog W .any base t v := hval0
  have hW' := hW
  obtain ⟨p, q, hA0, hV, rfl, hfz, hnd⟩ := hW
  have hA : DataW.TrodAll enc Tryz.prog W 0 (fun _ => true) true Tryz.f3.params.toList args.toList ds p := hA0
  rw [Tryz.params3] at hA hval
  obtain ⟨v0, vs0, d0, ds0, p0, q0, hargs, rfl, rfl, h0, r0⟩ := trodAll_cons hA
  obtain ⟨v1, vs1, d1, ds1, p1, q1, rfl, rfl, rfl, h1, r1⟩ := trodAll_cons r0
  obtain ⟨v2, vs2, d2, ds2, p2, q2, rfl, rfl, rfl, h2, r2⟩ := trodAll_cons r1
  obtain ⟨v3, vs3, d3, ds3, p3, q3, rfl, rfl, rfl, h3, r3⟩ := trodAll_cons r2
  obtain ⟨v4, vs4, d4, ds4, p4, q4, rfl, rfl, rfl, h4, r4⟩ := trodAll_cons r3
  obtain ⟨rfl, rfl, rfl⟩ := trodAll_nil r4
  obtain rfl : args = #[v0, v1, v2, v3, v4] := by cases args; simp_all
  obtain ⟨rfl, rfl⟩ := trodVars_none hV
  obtain ⟨a0, rfl, rfl, rfl, f0⟩ := open_head (hval 0 25 v0 rfl rfl) h0
  obtain ⟨a1, rfl, rfl, rfl, w1⟩ := open_int Tryz.underlying3 (hval 1 3 v1 rfl rfl) h1
  obtain ⟨a2, rfl, rfl, rfl, w2⟩ := open_int Tryz.underlying5 (hval 2 5 v2 rfl rfl) h2
  obtain ⟨a3, rfl, rfl, rfl, f3⟩ := EO.open_head (hval 3 27 v3 rfl rfl) h3
  obtain ⟨a4, rfl, rfl, rfl, w4⟩ := open_string Tryz.underlying9 (hval 4 9 v4 rfl rfl) h4
  clear hA0 hval0
  simp only [List.append_nil] at hW'
  have w0 : a0.Wf := f0.wf (sized_head hsz (j := 0) rfl rfl)
  have w3 := f3.u32
  have z4 : a4.size ≤ 140737488355328 := by
    have hq : a4.data.toList.length ≤ reachBytes := sized_string hsz (j := 4) (t := 9) rfl rfl
    have e : a4.data.toList.length = a4.size := by rw [Array.length_toList]; rfl
    rw [e] at hq
    exact Nat.le_trans hq (by decide)
  refine (walk W (env_of hL) a0 w0 a1 w1 a2 w2 a3 w3 a4 z4).mono fun e W' ⟨he, bel⟩ => ?_
  subst he
  exact ⟨_, rfl, _, _, _, [], _, [], hW', (trodAll_cons_mk (shut_bool Tryz.underlying4 _) trodAll_mk0), (trodAll_cons_mk (shut_head a0 f0) (trodAll_cons_mk (shut_int Tryz.underlying3 w1) (trodAll_cons_mk (shut_int Tryz.underlying5 w2) (trodAll_cons_mk (EO.shut_head a3 f3) (trodAll_cons_mk (shut_string Tryz.underlying9 w4) trodAll_mk0))))), rfl, bel.frame _, fun h => by cases h⟩

theorem over : Rows.patchPlainRow.holds Tryz.pinned (OpenSpec.ofChange Rows.patchPlainSpec) :=
  OpenClaim.holds_of_cond 3 Tryz.f3 rfl rfl rfl rfl rfl rfl rfl ⟨rfl, rfl, rfl, rfl, rfl⟩ rfl rfl rfl rfl rfl (by kernel_rfl) Tryz.func3 (by kernel_rfl)
    (of_decide_eq_true (by kernel_rfl)) (by unfold Func.isWrapper; first | (rw [if_pos (by decide +kernel)]; kernel_rfl) | (rw [if_neg (by decide +kernel)]; exact ⟨rfl, rfl⟩))
    (fun os started H enc _ F => by rw [OpenClaim.pre_eq_preRow]; exact lifted os started H enc F)

/-- No parameter wants a stand-in; the program's own looks are off. -/
theorem plain (f : FuncId) (fn : Func) (hf : Tryz.pinned.checked.prog.funcNamed Rows.patchPlainRow.func = some f) (hfn : Tryz.pinned.checked.prog.funcs[f]? = some fn) :
    false = Tryz.pinned.checked.prog.looks [] ∧ ∀ (j : Nat) t, fn.params[j]? = some t → Tryz.pinned.checked.prog.wantsStandIn t = false := by
  obtain rfl : f = 3 := Option.some.inj ((show Tryz.prog.funcNamed Rows.patchPlainRow.func = some 3 by kernel_rfl).symm.trans hf) |>.symm
  obtain rfl : fn = Tryz.f3 := (Option.some.inj (Tryz.func3.symm.trans hfn)).symm
  refine ⟨by kernel_rfl, fun j t ht => ?_⟩
  rw [Tryz.params3] at ht
  have hm : t ∈ [25, 3, 5, 27, 9] := by simpa using Array.mem_of_getElem? ht
  have hall : ([25, 3, 5, 27, 9].all fun u => !Tryz.prog.wantsStandIn u) = true := by kernel_rfl
  exact (show Tryz.prog.wantsStandIn t = false by simpa using List.all_eq_true.1 hall t hm)

theorem proved : Rows.PatchPlainCardSaid :=
  Claim7.holds_tied_plain_at .later [] _ _ _ _ over (fun _ h => by cases h) (by kernel_rfl) (fun _ h => by cases h) patchPlain_row_tie rfl ⟨rfl, rfl⟩ (by kernel_rfl) rfl plain (by kernel_rfl)
#print axioms proved
end Go.Proofs.YtpjaajeojiaeiaaGreatDoor.patchPlain
