/- PacketKeys: any tuple is turned, and has the key, that the reference says, or none; under the given ties of the package's listed variables. -/
import Derived.Test.YtinllnaekcifjaaDoorPkLaidD
import Derived.Test.YtinllnaekcifjaaDoorPkOpT
import Derived.Test.YtinllnaekcifjaaDoorPkKey
import Derived.Test.YtinllnaekcifjaaDoorPkEx
namespace Go.Proofs.YtinllnaekcifjaaDoor.packetKeys
open Go.ChangeShapes Go.WideShapes Go.ChangeAt Go.RowKit
open Go.ChangeMaps (open_string shut_string)
open TO
set_option linter.unusedVariables false
set_option maxHeartbeats 4000000 in
set_option maxRecDepth 100000 in
theorem walk (w : World) (hE : Ic.Env w) (a0 : Tp) (w0 : a0.Wf) :
    Calls Tryd.prog 3 #[a0.val] w fun e w' => e = .returned (.bool true) ∧ Below w.heap.size w w' := by
  have KE := hide (fun u h => examples_any u h)
  have KK := hide (fun u => key_any a0 w0 u)
  have KR := hide (fun u => rkey_any a0 w0 u)
  have V1 := hide (fun u => rev_any a0 u)
  have V2 := hide (fun u => rrev_any a0 u)
  generalize keyS a0 = KS at *
  generalize keyB a0 = KB at *
  generalize revT a0 = RT at *
  have HE := hide hE
  clear hE
  have r0 := row_new w a0.cells 24
  have b0 := alloc_on w (.cells a0.cells.toArray 24)
  have HR := hide (And.intro r0 b0)
  clear r0 b0
  go_enter Tryd.func3, Tryd.ntmps3
  go_wp2_with fail
  refine (unhide KE _ ((unhide HE).on (unhide HR).2)).mono ?_
  rintro e w1 ⟨rfl, hb⟩
  obtain ⟨r0, b0⟩ := unhide HR
  have r1 := r0.on' hb
  have b1 := Below.then b0 hb
  have c0 := r1.cell 0 _ rfl
  have c1 := r1.cell 1 _ rfl
  have c2 := r1.cell 2 _ rfl
  have c3 := r1.cell 3 _ rfl
  have c4 := r1.cell 4 _ rfl
  have HR := hide (And.intro r1 b1)
  clear r0 b0 r1 b1 hb
  go_wp2_with fail
  refine (unhide KK _).mono ?_
  rintro e w2 ⟨rfl, hb⟩
  clear c0 c1 c2 c3 c4
  obtain ⟨r1, b1⟩ := unhide HR
  have r2 := r1.on' hb
  have b2 := Below.then b1 hb
  have c0 := r2.cell 0 _ rfl
  have c1 := r2.cell 1 _ rfl
  have c2 := r2.cell 2 _ rfl
  have c3 := r2.cell 3 _ rfl
  have c4 := r2.cell 4 _ rfl
  have HR := hide (And.intro r2 b2)
  clear r1 b1 r2 b2 hb
  go_wp2_with fail
  refine (unhide KR _).mono ?_
  rintro e w3 ⟨rfl, hb⟩
  clear c0 c1 c2 c3 c4
  obtain ⟨r2, b2⟩ := unhide HR
  have r3 := r2.on' hb
  have HB := hide (Below.then b2 hb)
  clear r2 b2 hb HR
  have HR3 := hide r3
  clear r3
  go_wp2_with fail
  have r3 := unhide HR3
  have up : ∀ x, Below w3.heap.size w3.drew x → Row x w.heap.size a0.cells := fun x hb => (r3.of_block (W' := w3.drew) rfl).on hb r3.lt
  refine wp_region_grow (by kernel_rfl) [.bool true, .bool true, a0.val, RT.val, a0.val, RT.val, .bool true, .bool true, .bool true, .string KS, .string KS, .bool true, .bool true, .bool true, .bool KB, .bool KB, .bool true, .bool true, .bool true] (by kernel_rfl) ?op ?fin
  case op =>
    intro i o bx u ho hbel hS
    match i, ho with
    | 0, ho =>
      obtain rfl := Option.some.inj ho
      have d3 : bx.tmps.getD 3 undef = .bool true := hS.base 3 (by kernel_rfl)
      refine .inl ⟨rfl, ends_value' (c := .bool true) ?_⟩
      simp [execOp, Act.eval, d3]
    | 1, ho =>
      obtain rfl := Option.some.inj ho
      have d21 : bx.tmps.getD 21 undef = .bool true := hS.dep 0 21 (by kernel_rfl) (by kernel_rfl)
      refine .inl ⟨rfl, ends_value' (c := .bool true) ?_⟩
      simp [execOp, Act.eval, d21]
    | 2, ho =>
      obtain rfl := Option.some.inj ho
      have d1 : bx.tmps.getD 1 undef = .pointer (some ⟨w.heap.size, 0, none⟩) := hS.base 1 (by kernel_rfl)
      have gd : bx.tmps.getD 22 undef = .bool true := hS.dep 1 22 (by kernel_rfl) (by kernel_rfl)
      have v0 := (up u hbel).cell 0 _ rfl
      have v1 := (up u hbel).cell 1 _ rfl
      have v2 := (up u hbel).cell 2 _ rfl
      have v3 := (up u hbel).cell 3 _ rfl
      have v4 := (up u hbel).cell 4 _ rfl
      refine .inl ⟨wanted_yes (j := 1) (t := 22) (c := true) (by kernel_rfl) (by kernel_rfl) gd, ends_value' (c := a0.val) ?_⟩
      simp [Act.eval, d1, go_sem, v0, v1, v2, v3, v4]
    | 3, ho =>
      obtain rfl := Option.some.inj ho
      have d23 : bx.tmps.getD 23 undef = a0.val := hS.dep 2 23 (by kernel_rfl) (by kernel_rfl)
      have gd : bx.tmps.getD 22 undef = .bool true := hS.dep 1 22 (by kernel_rfl) (by kernel_rfl)
      refine .inl ⟨wanted_yes (j := 1) (t := 22) (c := true) (by kernel_rfl) (by kernel_rfl) gd, ends_call' (c := RT.val) (f := 11) (args := #[a0.val]) ?_ (unhide V1 u)⟩
      simp [Act.eval, d23, go_sem]
    | 4, ho =>
      obtain rfl := Option.some.inj ho
      have d1 : bx.tmps.getD 1 undef = .pointer (some ⟨w.heap.size, 0, none⟩) := hS.base 1 (by kernel_rfl)
      have gd : bx.tmps.getD 22 undef = .bool true := hS.dep 1 22 (by kernel_rfl) (by kernel_rfl)
      have v0 := (up u hbel).cell 0 _ rfl
      have v1 := (up u hbel).cell 1 _ rfl
      have v2 := (up u hbel).cell 2 _ rfl
      have v3 := (up u hbel).cell 3 _ rfl
      have v4 := (up u hbel).cell 4 _ rfl
      refine .inl ⟨wanted_yes (j := 1) (t := 22) (c := true) (by kernel_rfl) (by kernel_rfl) gd, ends_value' (c := a0.val) ?_⟩
      simp [Act.eval, d1, go_sem, v0, v1, v2, v3, v4]
    | 5, ho =>
      obtain rfl := Option.some.inj ho
      have d25 : bx.tmps.getD 25 undef = a0.val := hS.dep 4 25 (by kernel_rfl) (by kernel_rfl)
      have gd : bx.tmps.getD 22 undef = .bool true := hS.dep 1 22 (by kernel_rfl) (by kernel_rfl)
      refine .inl ⟨wanted_yes (j := 1) (t := 22) (c := true) (by kernel_rfl) (by kernel_rfl) gd, ends_call' (c := RT.val) (f := 12) (args := #[a0.val]) ?_ (unhide V2 u)⟩
      simp [Act.eval, d25, go_sem]
    | 6, ho =>
      obtain rfl := Option.some.inj ho
      have d24 : bx.tmps.getD 24 undef = RT.val := hS.dep 3 24 (by kernel_rfl) (by kernel_rfl)
      have d26 : bx.tmps.getD 26 undef = RT.val := hS.dep 5 26 (by kernel_rfl) (by kernel_rfl)
      have gd : bx.tmps.getD 22 undef = .bool true := hS.dep 1 22 (by kernel_rfl) (by kernel_rfl)
      refine .inl ⟨wanted_yes (j := 1) (t := 22) (c := true) (by kernel_rfl) (by kernel_rfl) gd, ends_value' (c := .bool true) ?_⟩
      simp [Act.eval, d24, d26, go_sem]
    | 7, ho =>
      obtain rfl := Option.some.inj ho
      have d22 : bx.tmps.getD 22 undef = .bool true := hS.dep 1 22 (by kernel_rfl) (by kernel_rfl)
      have d27 : bx.tmps.getD 27 undef = .bool true := hS.dep 6 27 (by kernel_rfl) (by kernel_rfl)
      refine .inl ⟨rfl, ends_value' (c := .bool true) ?_⟩
      simp [Act.eval, d22, d27, go_sem]
    | 8, ho =>
      obtain rfl := Option.some.inj ho
      have d28 : bx.tmps.getD 28 undef = .bool true := hS.dep 7 28 (by kernel_rfl) (by kernel_rfl)
      refine .inl ⟨rfl, ends_value' (c := .bool true) ?_⟩
      simp [execOp, Act.eval, d28]
    | 9, ho =>
      obtain rfl := Option.some.inj ho
      have d4 : bx.tmps.getD 4 undef = .string KS := hS.base 4 (by kernel_rfl)
      have gd : bx.tmps.getD 29 undef = .bool true := hS.dep 8 29 (by kernel_rfl) (by kernel_rfl)
      refine .inl ⟨wanted_yes (j := 8) (t := 29) (c := true) (by kernel_rfl) (by kernel_rfl) gd, ends_value' (c := .string KS) ?_⟩
      simp [execOp, Act.eval, d4]
    | 10, ho =>
      obtain rfl := Option.some.inj ho
      have d6 : bx.tmps.getD 6 undef = .string KS := hS.base 6 (by kernel_rfl)
      have gd : bx.tmps.getD 29 undef = .bool true := hS.dep 8 29 (by kernel_rfl) (by kernel_rfl)
      refine .inl ⟨wanted_yes (j := 8) (t := 29) (c := true) (by kernel_rfl) (by kernel_rfl) gd, ends_value' (c := .string KS) ?_⟩
      simp [execOp, Act.eval, d6]
    | 11, ho =>
      obtain rfl := Option.some.inj ho
      have d30 : bx.tmps.getD 30 undef = .string KS := hS.dep 9 30 (by kernel_rfl) (by kernel_rfl)
      have d31 : bx.tmps.getD 31 undef = .string KS := hS.dep 10 31 (by kernel_rfl) (by kernel_rfl)
      have gd : bx.tmps.getD 29 undef = .bool true := hS.dep 8 29 (by kernel_rfl) (by kernel_rfl)
      refine .inl ⟨wanted_yes (j := 8) (t := 29) (c := true) (by kernel_rfl) (by kernel_rfl) gd, ends_value' (c := .bool true) ?_⟩
      simp [Act.eval, d30, d31, go_sem]
    | 12, ho =>
      obtain rfl := Option.some.inj ho
      have d29 : bx.tmps.getD 29 undef = .bool true := hS.dep 8 29 (by kernel_rfl) (by kernel_rfl)
      have d32 : bx.tmps.getD 32 undef = .bool true := hS.dep 11 32 (by kernel_rfl) (by kernel_rfl)
      refine .inl ⟨rfl, ends_value' (c := .bool true) ?_⟩
      simp [Act.eval, d29, d32, go_sem]
    | 13, ho =>
      obtain rfl := Option.some.inj ho
      have d33 : bx.tmps.getD 33 undef = .bool true := hS.dep 12 33 (by kernel_rfl) (by kernel_rfl)
      refine .inl ⟨rfl, ends_value' (c := .bool true) ?_⟩
      simp [execOp, Act.eval, d33]
    | 14, ho =>
      obtain rfl := Option.some.inj ho
      have d5 : bx.tmps.getD 5 undef = .bool KB := hS.base 5 (by kernel_rfl)
      have gd : bx.tmps.getD 34 undef = .bool true := hS.dep 13 34 (by kernel_rfl) (by kernel_rfl)
      refine .inl ⟨wanted_yes (j := 13) (t := 34) (c := true) (by kernel_rfl) (by kernel_rfl) gd, ends_value' (c := .bool KB) ?_⟩
      simp [execOp, Act.eval, d5]
    | 15, ho =>
      obtain rfl := Option.some.inj ho
      have d7 : bx.tmps.getD 7 undef = .bool KB := hS.base 7 (by kernel_rfl)
      have gd : bx.tmps.getD 34 undef = .bool true := hS.dep 13 34 (by kernel_rfl) (by kernel_rfl)
      refine .inl ⟨wanted_yes (j := 13) (t := 34) (c := true) (by kernel_rfl) (by kernel_rfl) gd, ends_value' (c := .bool KB) ?_⟩
      simp [execOp, Act.eval, d7]
    | 16, ho =>
      obtain rfl := Option.some.inj ho
      have d35 : bx.tmps.getD 35 undef = .bool KB := hS.dep 14 35 (by kernel_rfl) (by kernel_rfl)
      have d36 : bx.tmps.getD 36 undef = .bool KB := hS.dep 15 36 (by kernel_rfl) (by kernel_rfl)
      have gd : bx.tmps.getD 34 undef = .bool true := hS.dep 13 34 (by kernel_rfl) (by kernel_rfl)
      refine .inl ⟨wanted_yes (j := 13) (t := 34) (c := true) (by kernel_rfl) (by kernel_rfl) gd, ends_value' (c := .bool true) ?_⟩
      simp [Act.eval, d35, d36, go_sem]
    | 17, ho =>
      obtain rfl := Option.some.inj ho
      have d34 : bx.tmps.getD 34 undef = .bool true := hS.dep 13 34 (by kernel_rfl) (by kernel_rfl)
      have d37 : bx.tmps.getD 37 undef = .bool true := hS.dep 16 37 (by kernel_rfl) (by kernel_rfl)
      refine .inl ⟨rfl, ends_value' (c := .bool true) ?_⟩
      simp [Act.eval, d34, d37, go_sem]
    | 18, ho =>
      obtain rfl := Option.some.inj ho
      have d38 : bx.tmps.getD 38 undef = .bool true := hS.dep 17 38 (by kernel_rfl) (by kernel_rfl)
      refine .inl ⟨rfl, ends_value' (c := .bool true) ?_⟩
      simp [execOp, Act.eval, d38]
    | n + 19, ho => exact absurd ho (by simp)
  case fin =>
    intro u hbel
    simp [putAll, dstAt, Act.put]
    have HB2 := hide (Below.then (unhide HB) (show Below w3.heap.size w3 u from ⟨hbel.os, hbel.tape, hbel.output, hbel.size, hbel.block⟩))
    clear up r3 hbel HR3
    go_wp2_with fail
    go_ret
    exact ⟨rfl, unhide HB2⟩

theorem reads (os : Os) {H : Type} (enc : TypeId × Value → H) : DataW.whole enc Tryd.prog ((World.laidAll Tryd.prog os Rows.packetKeysRow.laid).forCall (fun _ _ => 0) ⟨#[], #[.agg #[.int .i64 0, .int .u32 0, .int .u32 0, .int .i64 0, .int .i64 0]], []⟩).memory Tryd.f3.params.toList Rows.packetKeysSpec.vars false (#[.agg #[.int .i64 0, .int .u32 0, .int .u32 0, .int .i64 0, .int .i64 0]] : Array Value).toList 8 = some ([.agg [.lit (.int .i64 0), .lit (.int .u32 0), .lit (.int .u32 0), .lit (.int .i64 0), .lit (.int .i64 0)]], [], []) := by kernel_rfl
set_option maxRecDepth 100000 in
theorem lifted (os : Os) (started : os.Started) (H : Type) (enc : TypeId × Value → H) (F : Stop.Interp) :
    ReturnsInHanded {} Tryd.checked os 3 .any ((OpenSpec.ofChange Rows.packetKeysSpec).preRow enc Tryd.prog Tryd.f3 Rows.packetKeysRow.domain false Rows.packetKeysRow.laid) (((OpenSpec.ofChange Rows.packetKeysSpec).at F).post enc Tryd.prog Tryd.f3 false true false false) := by
  refine returnsInHanded_of_row (C := Tryd.checked) (s := (OpenSpec.ofChange Rows.packetKeysSpec)) own started (by kernel_rfl) Tryd.func3
    (witness_row_at (enc := enc) (C := Tryd.checked) false (World.laidAll Tryd.prog os Rows.packetKeysRow.laid) #[.agg #[.int .i64 0, .int .u32 0, .int .u32 0, .int .i64 0, .int .i64 0]] (World.laidAll_os _ _ _) (by kernel_rfl) (by kernel_rfl) (by kernel_rfl)
      (OpenSpec.preRow_of_cond 8 (reads os enc) (by kernel_rfl) (fun k hk => by cases hk) (by kernel_rfl) (laid_met os _))) ?_
  intro W base args ds gs before hval0 hW _ hcond hsz hL _ _
  have hval : ∀ (j : Nat) t v, Tryd.f3.params[j]? = some t → args[j]? = some v → Value.okWide Tryd.prog W .any base t v := hval0
  have hW' := hW
  obtain ⟨p, q, hA0, hV, rfl, hfz, hnd⟩ := hW
  have hA : DataW.TrodAll enc Tryd.prog W 0 (fun _ => true) true Tryd.f3.params.toList args.toList ds p := hA0
  rw [Tryd.params3] at hA hval
  obtain ⟨v0, vs0, d0, ds0, p0, q0, hargs, rfl, rfl, h0, r0⟩ := trodAll_cons hA
  obtain ⟨rfl, rfl, rfl⟩ := trodAll_nil r0
  obtain rfl : args = #[v0] := by cases args; simp_all
  obtain ⟨rfl, rfl⟩ := trodVars_none hV
  obtain ⟨a0, rfl, rfl, rfl, f0⟩ := open_head (hval 0 24 v0 rfl rfl) h0
  clear hA0 hval0
  simp only [List.append_nil] at hW'
  have w0 : a0.Wf := f0.wf (sized_head hsz (j := 0) rfl rfl)
  refine (walk W (env_of hL) a0 w0).mono fun e W' ⟨he, bel⟩ => ?_
  subst he
  exact ⟨_, rfl, _, _, _, [], _, [], hW', (trodAll_cons_mk (shut_bool Tryd.underlying4 _) trodAll_mk0), (trodAll_cons_mk (shut_head a0 f0) trodAll_mk0), rfl, bel.frame _, fun h => by cases h⟩

theorem over : Rows.packetKeysRow.holds Tryd.pinned (OpenSpec.ofChange Rows.packetKeysSpec) :=
  OpenClaim.holds_of_cond 3 Tryd.f3 rfl rfl rfl rfl rfl rfl rfl ⟨rfl, rfl, rfl, rfl, rfl⟩ rfl rfl rfl rfl rfl (by kernel_rfl) Tryd.func3 (by kernel_rfl)
    (of_decide_eq_true (by kernel_rfl)) (by unfold Func.isWrapper; first | (rw [if_pos (by decide +kernel)]; kernel_rfl) | (rw [if_neg (by decide +kernel)]; exact ⟨rfl, rfl⟩))
    (fun os started H enc _ F => by rw [OpenClaim.pre_eq_preRow]; exact lifted os started H enc F)

/-- No parameter wants a stand-in; the program's own looks are off. -/
theorem plain (f : FuncId) (fn : Func) (hf : Tryd.pinned.checked.prog.funcNamed Rows.packetKeysRow.func = some f) (hfn : Tryd.pinned.checked.prog.funcs[f]? = some fn) :
    false = Tryd.pinned.checked.prog.looks [] ∧ ∀ (j : Nat) t, fn.params[j]? = some t → Tryd.pinned.checked.prog.wantsStandIn t = false := by
  obtain rfl : f = 3 := Option.some.inj ((show Tryd.prog.funcNamed Rows.packetKeysRow.func = some 3 by kernel_rfl).symm.trans hf) |>.symm
  obtain rfl : fn = Tryd.f3 := (Option.some.inj (Tryd.func3.symm.trans hfn)).symm
  refine ⟨by kernel_rfl, fun j t ht => ?_⟩
  rw [Tryd.params3] at ht
  have hm : t ∈ [24] := by simpa using Array.mem_of_getElem? ht
  have hall : ([24].all fun u => !Tryd.prog.wantsStandIn u) = true := by kernel_rfl
  exact (show Tryd.prog.wantsStandIn t = false by simpa using List.all_eq_true.1 hall t hm)

theorem proved : Rows.PacketKeysCardSaid :=
  Claim7.holds_tied_plain_at .later [] _ _ _ _ over (fun _ h => by cases h) (by kernel_rfl) (fun _ h => by cases h) packetKeys_row_tie rfl ⟨rfl, rfl⟩ (by kernel_rfl) rfl plain (by kernel_rfl)
#print axioms proved
end Go.Proofs.YtinllnaekcifjaaDoor.packetKeys
