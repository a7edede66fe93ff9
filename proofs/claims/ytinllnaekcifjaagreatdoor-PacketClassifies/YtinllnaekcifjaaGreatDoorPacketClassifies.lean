/- PacketClassifies: any bytes, and any packet with a byte another one, and something behind, are told as the reference says, or refused with the first of all errors; under the given ties of the package's listed variables. -/
import Derived.Test.YtinllnaekcifjaaGreatDoorPkLaidZ
import Derived.Test.YtinllnaekcifjaaGreatDoorPkOpM
import Derived.Test.YtinllnaekcifjaaGreatDoorPkEx
import Derived.Test.YtinllnaekcifjaaGreatDoorPkRefC
import Derived.Test.YtinllnaekcifjaaGreatDoorPkBrk
namespace Go.Proofs.YtinllnaekcifjaaGreatDoor.packetClassifies
open Go.ChangeShapes Go.WideShapes Go.ChangeAt Go.RowKit
open Go.ChangeMaps (open_string shut_string)
open MO
set_option linter.unusedVariables false
theorem add_run9 (x y : ByteArray) (hx : x.size ≤ 140737488355328) (hy : y.size ≤ 140737488355328) : ∀ wx, (Op.stringOp .add x y).run Tryz.prog wx = .ok (.string (x ++ y)) wx := fun wx => run_string_add_sum (P := Tryz.prog) (w := wx) x y (by omega)
set_option maxHeartbeats 4000000 in
set_option maxRecDepth 100000 in
theorem walk (w : World) (hE : Ic.Env w) (a0 : Mk) (w0 : a0.Wf) (a1 : Int) (w1 : (Lit.int .i64 a1).wf = true) (a2 : Int) (w2 : (Lit.int .u8 a2).wf = true) (a3 : ByteArray) (z3 : a3.size ≤ 140737488355328) (a4 : ByteArray) (z4 : a4.size ≤ 140737488355328) (a5 : Bool) :
    Calls Tryz.prog 3 #[a0.val, .int .i64 a1, .int .u8 a2, .string a3, .string a4, .bool a5] w fun e w' => e = .returned (.bool true) ∧ Below w.heap.size w w' := by
  have KE := hide (fun u h => examples_any u h)
  have FA := hide (fun u => frame_any a0 u w0)
  obtain ⟨sz1, sz2⟩ := frame_size w0
  have BA := hide (fun u => broken_any (frameS a0) a1 a2 u (by omega) (by omega) (bounds_i64 w1))
  generalize frameS a0 = F at *
  have HE := hide hE
  clear hE w0 w1 w2
  have r0 := row_new w a0.cells 25
  have b0 := alloc_on w (.cells a0.cells.toArray 25)
  have HR := hide (And.intro r0 b0)
  clear r0 b0
  go_enter Tryz.func3, Tryz.ntmps3
  go_wp2_with fail
  refine (unhide KE _ ((unhide HE).on (unhide HR).2)).mono ?_
  rintro e w1 ⟨rfl, hb⟩
  obtain ⟨r0, b0⟩ := unhide HR
  have r1 := r0.on' hb
  have b1 := Below.then b0 hb
  have c0 := r1.cell 0 _ rfl
  have c1 := r1.cell 1 _ rfl
  have c2 := r1.cell 2 _ rfl
  have c3 := r1.cell 3 _ rfl
  have c4 := r1.cell 4 _ rfl
  have c5 := r1.cell 5 _ rfl
  have c6 := r1.cell 6 _ rfl
  have c7 := r1.cell 7 _ rfl
  have c8 := r1.cell 8 _ rfl
  have c9 := r1.cell 9 _ rfl
  have c10 := r1.cell 10 _ rfl
  clear r0 b0 r1 hb HR
  have HB1 := hide b1
  clear b1
  cases a5 with
  | true =>
    go_wp2_with fail
    refine (unhide FA _).mono ?_
    rintro e w2 ⟨rfl, hb⟩
    have HB2 := hide (Below.then (unhide HB1) hb)
    clear hb c0 c1 c2 c3 c4 c5 c6 c7 c8 c9 c10
    go_wp2_with fail
    refine (unhide BA _).mono ?_
    rintro e w3 ⟨t, rfl, hts, hb⟩
    have HB3 := hide (Below.then (unhide HB2) hb)
    have ad := add_run9 t a3 (by omega) (by omega)
    have hsz : (t ++ a3).size ≤ 140737488360000 := by rw [ByteArray.size_append]; omega
    clear hb hts
    generalize t ++ a3 = S at *
    have CA := hide (fun u h => classify_any S u hsz h)
    have CR := hide (fun u => rclassify_any S u hsz)
    have AL := hide (fun u => alike_any (clsP S) u)
    generalize clsP S = P at *
    generalize clsE S = E at *
    go_wp2_with fail
    refine (unhide CA _ ((unhide HE).on (unhide HB3))).mono ?_
    rintro e w4 ⟨rfl, hb⟩
    have n4 := alloc_on w4 (.cells P.cells.toArray 32)
    have q4 := row_new w4 P.cells 32
    obtain ⟨W4, e4⟩ : ∃ V, w4.alloc (.cells P.cells.toArray 32) = V := ⟨_, rfl⟩
    rw [e4] at n4 q4
    have HB4 := hide (And.intro q4 (Below.then (Below.then (unhide HB3) hb) n4))
    clear hb n4 q4
    go_wp2_with fail
    refine (unhide CR _).mono ?_
    rintro e w5 ⟨rfl, hb⟩
    obtain ⟨q4, b4⟩ := unhide HB4
    have n5 := alloc_on w5 (.cells P.cells.toArray 36)
    have q5 := row_new w5 P.cells 36
    obtain ⟨W5, e5⟩ : ∃ V, w5.alloc (.cells P.cells.toArray 36) = V := ⟨_, rfl⟩
    rw [e5] at n5 q5
    replace q4 := (q4.on' hb).on' n5
    have HB5 := hide (Below.then (Below.then b4 hb) n5)
    have x0 := q4.cell 0 _ rfl
    have x1 := q4.cell 1 _ rfl
    have x2 := q4.cell 2 _ rfl
    have x3 := q4.cell 3 _ rfl
    have x4 := q4.cell 4 _ rfl
    have x5 := q4.cell 5 _ rfl
    have x6 := q4.cell 6 _ rfl
    have x7 := q4.cell 7 _ rfl
    have x8 := q4.cell 8 _ rfl
    have x9 := q4.cell 9 _ rfl
    have x10 := q4.cell 10 _ rfl
    have x11 := q4.cell 11 _ rfl
    have x12 := q4.cell 12 _ rfl
    have x13 := q4.cell 13 _ rfl
    have y0 := q5.cell 0 _ rfl
    have y1 := q5.cell 1 _ rfl
    have y2 := q5.cell 2 _ rfl
    have y3 := q5.cell 3 _ rfl
    have y4 := q5.cell 4 _ rfl
    have y5 := q5.cell 5 _ rfl
    have y6 := q5.cell 6 _ rfl
    have y7 := q5.cell 7 _ rfl
    have y8 := q5.cell 8 _ rfl
    have y9 := q5.cell 9 _ rfl
    have y10 := q5.cell 10 _ rfl
    have y11 := q5.cell 11 _ rfl
    have y12 := q5.cell 12 _ rfl
    have y13 := q5.cell 13 _ rfl
    clear hb n5 q4 q5 b4 HB4 e4
    go_wp2_with fail
    refine (unhide AL _).mono ?_
    rintro e w6 ⟨rfl, hb⟩
    have HB6 := hide (Below.then (unhide HB5) hb)
    clear hb x0 y0 x1 y1 x2 y2 x3 y3 x4 y4 x5 y5 x6 y6 x7 y7 x8 y8 x9 y9 x10 y10 x11 y11 x12 y12 x13 y13 e5
    go_wp2_with fail
    go_ret
    exact ⟨rfl, unhide HB6⟩
  | false =>
    clear c0 c1 c2 c3 c4 c5 c6 c7 c8 c9 c10
    have hsz : a4.size ≤ 140737488360000 := by omega
    have CA := hide (fun u h => classify_any a4 u hsz h)
    have CR := hide (fun u => rclassify_any a4 u hsz)
    have AL := hide (fun u => alike_any (clsP a4) u)
    generalize clsP a4 = P at *
    generalize clsE a4 = E at *
    go_wp2_with fail
    refine (unhide CA _ ((unhide HE).on (unhide HB1))).mono ?_
    rintro e w4 ⟨rfl, hb⟩
    have n4 := alloc_on w4 (.cells P.cells.toArray 32)
    have q4 := row_new w4 P.cells 32
    obtain ⟨W4, e4⟩ : ∃ V, w4.alloc (.cells P.cells.toArray 32) = V := ⟨_, rfl⟩
    rw [e4] at n4 q4
    have HB4 := hide (And.intro q4 (Below.then (Below.then (unhide HB1) hb) n4))
    clear hb n4 q4
    go_wp2_with fail
    refine (unhide CR _).mono ?_
    rintro e w5 ⟨rfl, hb⟩
    obtain ⟨q4, b4⟩ := unhide HB4
    have n5 := alloc_on w5 (.cells P.cells.toArray 36)
    have q5 := row_new w5 P.cells 36
    obtain ⟨W5, e5⟩ : ∃ V, w5.alloc (.cells P.cells.toArray 36) = V := ⟨_, rfl⟩
    rw [e5] at n5 q5
    replace q4 := (q4.on' hb).on' n5
    have HB5 := hide (Below.then (Below.then b4 hb) n5)
    have x0 := q4.cell 0 _ rfl
    have x1 := q4.cell 1 _ rfl
    have x2 := q4.cell 2 _ rfl
    have x3 := q4.cell 3 _ rfl
    have x4 := q4.cell 4 _ rfl
    have x5 := q4.cell 5 _ rfl
    have x6 := q4.cell 6 _ rfl
    have x7 := q4.cell 7 _ rfl
    have x8 := q4.cell 8 _ rfl
    have x9 := q4.cell 9 _ rfl
    have x10 := q4.cell 10 _ rfl
    have x11 := q4.cell 11 _ rfl
    have x12 := q4.cell 12 _ rfl
    have x13 := q4.cell 13 _ rfl
    have y0 := q5.cell 0 _ rfl
    have y1 := q5.cell 1 _ rfl
    have y2 := q5.cell 2 _ rfl
    have y3 := q5.cell 3 _ rfl
    have y4 := q5.cell 4 _ rfl
    have y5 := q5.cell 5 _ rfl
    have y6 := q5.cell 6 _ rfl
    have y7 := q5.cell 7 _ rfl
    have y8 := q5.cell 8 _ rfl
    have y9 := q5.cell 9 _ rfl
    have y10 := q5.cell 10 _ rfl
    have y11 := q5.cell 11 _ rfl
    have y12 := q5.cell 12 _ rfl
    have y13 := q5.cell 13 _ rfl
    clear hb n5 q4 q5 b4 HB4 e4
    go_wp2_with fail
    refine (unhide AL _).mono ?_
    rintro e w6 ⟨rfl, hb⟩
    have HB6 := hide (Below.then (unhide HB5) hb)
    clear hb x0 y0 x1 y1 x2 y2 x3 y3 x4 y4 x5 y5 x6 y6 x7 y7 x8 y8 x9 y9 x10 y10 x11 y11 x12 y12 x13 y13 e5
    go_wp2_with fail
    go_ret
    exact ⟨rfl, unhide HB6⟩

theorem reads (os : Os) {H : Type} (enc : TypeId × Value → H) : DataW.whole enc Tryz.prog ((World.laidAll Tryz.prog os Rows.packetClassifiesRow.laid).forCall (fun _ _ => 0) ⟨#[], #[.agg #[.int .u8 0, .int .u32 0, .int .u32 0, .int .u16 0, .int .u16 0, .int .u8 0, .int .u8 0, .string ByteArray.empty, .bool false, .int .u32 0, .int .u32 0], .int .i64 0, .int .u8 0, .string ByteArray.empty, .string ByteArray.empty, .bool false], []⟩).memory Tryz.f3.params.toList Rows.packetClassifiesSpec.vars false (#[.agg #[.int .u8 0, .int .u32 0, .int .u32 0, .int .u16 0, .int .u16 0, .int .u8 0, .int .u8 0, .string ByteArray.empty, .bool false, .int .u32 0, .int .u32 0], .int .i64 0, .int .u8 0, .string ByteArray.empty, .string ByteArray.empty, .bool false] : Array Value).toList 8 = some ([.agg [.lit (.int .u8 0), .lit (.int .u32 0), .lit (.int .u32 0), .lit (.int .u16 0), .lit (.int .u16 0), .lit (.int .u8 0), .lit (.int .u8 0), .lit (.string []), .lit (.bool false), .lit (.int .u32 0), .lit (.int .u32 0)], .lit (.int .i64 0), .lit (.int .u8 0), .lit (.string []), .lit (.string []), .lit (.bool false)], [], []) := by kernel_rfl
set_option maxRecDepth 100000 in
theorem lifted (os : Os) (started : os.Started) (H : Type) (enc : TypeId × Value → H) (F : Stop.Interp) :
    ReturnsInHanded {} Tryz.checked os 3 .any ((OpenSpec.ofChange Rows.packetClassifiesSpec).preRow enc Tryz.prog Tryz.f3 Rows.packetClassifiesRow.domain false Rows.packetClassifiesRow.laid) (((OpenSpec.ofChange Rows.packetClassifiesSpec).at F).post enc Tryz.prog Tryz.f3 false true false false) := by
  refine returnsInHanded_of_row (C := Tryz.checked) (s := (OpenSpec.ofChange Rows.packetClassifiesSpec)) own started (by kernel_rfl) Tryz.func3
    (witness_row_at (enc := enc) (C := Tryz.checked) false (World.laidAll Tryz.prog os Rows.packetClassifiesRow.laid) #[.agg #[.int .u8 0, .int .u32 0, .int .u32 0, .int .u16 0, .int .u16 0, .int .u8 0, .int .u8 0, .string ByteArray.empty, .bool false, .int .u32 0, .int .u32 0], .int .i64 0, .int .u8 0, .string ByteArray.empty, .string ByteArray.empty, .bool false] (World.laidAll_os _ _ _) (by kernel_rfl) (by kernel_rfl) (by kernel_rfl)
      (OpenSpec.preRow_of_cond 8 (reads os enc) (by kernel_rfl) (fun k hk => by cases hk) (by kernel_rfl) (laid_met os _))) ?_
  intro W base args ds gs before hval0 hW _ hcond hsz hL _ _
  have hval : ∀ (j : Nat) t v, Tryz.f3.params[j]? = some t → args[j]? = some v → Value.okWide Tryz.prog W .any base t v := hval0
  have hW' := hW
  obtain ⟨p, q, hA0, hV, rfl, hfz, hnd⟩ := hW
  have hA : DataW.TrodAll enc Tryz.prog W 0 (fun _ => true) true Tryz.f3.params.toList args.toList ds p := hA0
  rw [Tryz.params3] at hA hval
  obtain ⟨v0, vs0, d0, ds0, p0, q0, hargs, rfl, rfl, h0, r0⟩ := trodAll_cons hA
  obtain ⟨v1, vs1, d1, ds1, p1, q1, rfl, rfl, rfl, h1, r1⟩ := trodAll_cons r0
  obtain ⟨v2, vs2, d2, ds2, p2, q2, rfl, rfl, rfl, h2, r2⟩ := trodAll_cons r1
  obtain ⟨v3, vs3, d3, ds3, p3, q3, rfl, rfl, rfl, h3, r3⟩ := trodAll_cons r2
  obtain ⟨v4, vs4, d4, ds4, p4, q4, rfl, rfl, rfl, h4, r4⟩ := trodAll_cons r3
  obtain ⟨v5, vs5, d5, ds5, p5, q5, rfl, rfl, rfl, h5, r5⟩ := trodAll_cons r4
  obtain ⟨rfl, rfl, rfl⟩ := trodAll_nil r5
  obtain rfl : args = #[v0, v1, v2, v3, v4, v5] := by cases args; simp_all
  obtain ⟨rfl, rfl⟩ := trodVars_none hV
  obtain ⟨a0, rfl, rfl, rfl, f0⟩ := open_head (hval 0 25 v0 rfl rfl) h0
  obtain ⟨a1, rfl, rfl, rfl, w1⟩ := open_int Tryz.underlying3 (hval 1 3 v1 rfl rfl) h1
  obtain ⟨a2, rfl, rfl, rfl, w2⟩ := open_int Tryz.underlying5 (hval 2 5 v2 rfl rfl) h2
  obtain ⟨a3, rfl, rfl, rfl, w3⟩ := open_string Tryz.underlying9 (hval 3 9 v3 rfl rfl) h3
  obtain ⟨a4, rfl, rfl, rfl, w4⟩ := open_string Tryz.underlying9 (hval 4 9 v4 rfl rfl) h4
  obtain ⟨a5, rfl, rfl, rfl⟩ := open_bool Tryz.underlying4 (hval 5 4 v5 rfl rfl) h5
  clear hA0 hval0
  simp only [List.append_nil] at hW'
  have w0 : a0.Wf := f0.wf (sized_head hsz (j := 0) rfl rfl)
  have z3 : a3.size ≤ 140737488355328 := by
    have hq : a3.data.toList.length ≤ reachBytes := sized_string hsz (j := 3) (t := 9) rfl rfl
    have e : a3.data.toList.length = a3.size := by rw [Array.length_toList]; rfl
    rw [e] at hq
    exact Nat.le_trans hq (by decide)
  have z4 : a4.size ≤ 140737488355328 := by
    have hq : a4.data.toList.length ≤ reachBytes := sized_string hsz (j := 4) (t := 9) rfl rfl
    have e : a4.data.toList.length = a4.size := by rw [Array.length_toList]; rfl
    rw [e] at hq
    exact Nat.le_trans hq (by decide)
  refine (walk W (env_of hL) a0 w0 a1 w1 a2 w2 a3 z3 a4 z4 a5).mono fun e W' ⟨he, bel⟩ => ?_
  subst he
  exact ⟨_, rfl, _, _, _, [], _, [], hW', (trodAll_cons_mk (shut_bool Tryz.underlying4 _) trodAll_mk0), (trodAll_cons_mk (shut_head a0 f0) (trodAll_cons_mk (shut_int Tryz.underlying3 w1) (trodAll_cons_mk (shut_int Tryz.underlying5 w2) (trodAll_cons_mk (shut_string Tryz.underlying9 w3) (trodAll_cons_mk (shut_string Tryz.underlying9 w4) (trodAll_cons_mk (shut_bool Tryz.underlying4 _) trodAll_mk0)))))), rfl, bel.frame _, fun h => by cases h⟩

theorem over : Rows.packetClassifiesRow.holds Tryz.pinned (OpenSpec.ofChange Rows.packetClassifiesSpec) :=
  OpenClaim.holds_of_cond 3 Tryz.f3 rfl rfl rfl rfl rfl rfl rfl ⟨rfl, rfl, rfl, rfl, rfl⟩ rfl rfl rfl rfl rfl (by kernel_rfl) Tryz.func3 (by kernel_rfl)
    (of_decide_eq_true (by kernel_rfl)) (by unfold Func.isWrapper; first | (rw [if_pos (by decide +kernel)]; kernel_rfl) | (rw [if_neg (by decide +kernel)]; exact ⟨rfl, rfl⟩))
    (fun os started H enc _ F => by rw [OpenClaim.pre_eq_preRow]; exact lifted os started H enc F)

/-- No parameter wants a stand-in; the program's own looks are off. -/
theorem plain (f : FuncId) (fn : Func) (hf : Tryz.pinned.checked.prog.funcNamed Rows.packetClassifiesRow.func = some f) (hfn : Tryz.pinned.checked.prog.funcs[f]? = some fn) :
    false = Tryz.pinned.checked.prog.looks [] ∧ ∀ (j : Nat) t, fn.params[j]? = some t → Tryz.pinned.checked.prog.wantsStandIn t = false := by
  obtain rfl : f = 3 := Option.some.inj ((show Tryz.prog.funcNamed Rows.packetClassifiesRow.func = some 3 by kernel_rfl).symm.trans hf) |>.symm
  obtain rfl : fn = Tryz.f3 := (Option.some.inj (Tryz.func3.symm.trans hfn)).symm
  refine ⟨by kernel_rfl, fun j t ht => ?_⟩
  rw [Tryz.params3] at ht
  have hm : t ∈ [25, 3, 5, 9, 9, 4] := by simpa using Array.mem_of_getElem? ht
  have hall : ([25, 3, 5, 9, 9, 4].all fun u => !Tryz.prog.wantsStandIn u) = true := by kernel_rfl
  exact (show Tryz.prog.wantsStandIn t = false by simpa using List.all_eq_true.1 hall t hm)

theorem proved : Rows.PacketClassifiesCardSaid :=
  Claim7.holds_tied_plain_at .later [] _ _ _ _ over (fun _ h => by cases h) (by kernel_rfl) (fun _ h => by cases h) packetClassifies_row_tie rfl ⟨rfl, rfl⟩ (by kernel_rfl) rfl plain (by kernel_rfl)
#print axioms proved
end Go.Proofs.YtinllnaekcifjaaGreatDoor.packetClassifies
