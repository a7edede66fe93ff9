/- The law IcmpCut returns true for every kind of 8 bits, every body and every place of 8 bits, and changes nothing that was there before, where the package's four variables hold what the program's own text lays in them; no condition but the form's own. -/
import Derived.Test.YteggaeleehlhmaaDoorIcLaid
import Derived.Test.YteggaeleehlhmaaDoorIcBit
namespace Go.Proofs.YteggaeleehlhmaaDoor.icmpCut
open Go.ChangeShapes Go.WideShapes Go.ChangeAt Go.RowKit
open Go.ChangeMaps (open_string shut_string)
set_option linter.unusedVariables false
set_option maxHeartbeats 1000000 in
set_option maxRecDepth 100000 in
theorem walk (w : World) (hE : Env w) (a0 : Int) (w0 : (Lit.int .u8 a0).wf = true) (a1 : ByteArray) (z1 : a1.size ≤ 140737488355328) (a2 : Int) (w2 : (Lit.int .u8 a2).wf = true) :
    Calls Tryd.prog 7 #[.int .u8 a0, .string a1, .int .u8 a2] w fun e w' => e = .returned (.bool true) ∧ Below w.heap.size w w' := by
  obtain ⟨x0, x1⟩ := bounds_u8 w0
  obtain ⟨y0, y1⟩ := bounds_u8 w2
  obtain ⟨m, hmin⟩ : ∃ m : Nat, min (a1.size : Int) 100 = m := ⟨min a1.size 100, by omega⟩
  have hm1 : m ≤ 100 := by omega
  have hm2 : m ≤ a1.size := by omega
  have hm3 : (m : Int) ≤ a1.size := by omega
  have hBs : (a1.extract 0 m).size = m := by rw [Oct.ext_size _ _ _ hm2]; rfl
  have ha := add_run (a1.extract 0 m) ⟨#[120]⟩ (by omega) (by decide)
  have hXs : (a1.extract 0 m ++ ⟨#[120]⟩).size = m + 1 := by rw [ByteArray.size_append, hBs]; rfl
  have hg : Good ⟨a0, 0, 0, a1.extract 0 m ++ ⟨#[120]⟩⟩ := good_mk _ x0 (by omega) (by decide) (by decide) (by decide) (by decide)
  have hbe := buildE_of hg (by simp only [hXs]; omega)
  have hbz := built_size hg
  have hlast := cut_last hg (a1.extract 0 m) 120 rfl (by decide)
  rw [hBs] at hlast
  simp only [hXs] at hbz
  have HB1 : Hid (∀ u, Calls Tryd.prog 9 #[.agg #[.int .i64 a0, .int .i64 0, .int .u32 0, .string (a1.extract 0 m ++ ⟨#[120]⟩)]] u fun e u' => e = .returned (.tuple #[.string (built ⟨a0, 0, 0, a1.extract 0 m ++ ⟨#[120]⟩⟩), .int .i64 0]) ∧ Below u.heap.size u u') := fun u => by
    have := build_any ⟨a0, 0, 0, a1.extract 0 m ++ ⟨#[120]⟩⟩ u (wf_mk _ x0 (by omega) (by decide) (by decide) (by decide) (by decide) (by omega))
    rw [hbe, buildS_of hbe] at this
    exact this
  have HB2 : Hid (∀ u, Calls Tryd.prog 9 #[.agg #[.int .i64 256, .int .i64 0, .int .u32 0, .string ⟨#[]⟩]] u fun e u' => e = .returned (.tuple #[.string ⟨#[]⟩, .int .i64 1]) ∧ Below u.heap.size u u') := fun u =>
    build_any ⟨256, 0, 0, ⟨#[]⟩⟩ u ⟨by decide, by decide, by decide, by decide⟩
  have HB3 : Hid (∀ u, Calls Tryd.prog 9 #[.agg #[.int .i64 0, .int .i64 (-1), .int .u32 0, .string ⟨#[]⟩]] u fun e u' => e = .returned (.tuple #[.string ⟨#[]⟩, .int .i64 1]) ∧ Below u.heap.size u u') := fun u =>
    build_any ⟨0, -1, 0, ⟨#[]⟩⟩ u ⟨by decide, by decide, by decide, by decide⟩
  generalize built ⟨a0, 0, 0, a1.extract 0 m ++ ⟨#[120]⟩⟩ = s at *
  generalize hB : a1.extract 0 m = B at *
  generalize hX : B ++ ⟨#[120]⟩ = X at *
  obtain ⟨k, hk⟩ : ∃ k : Nat, a2 % 8 = k := ⟨(a2 % 8).toNat, by omega⟩
  have hk8 : k < 8 := by omega
  have km : a2.tmod 8 = k := by rw [Int.tmod_eq_emod_of_nonneg y0]; exact hk
  have kw : IntKind.u8.wrap (k : Int) = k := by simp [IntKind.wrap, IntKind.bits, IntKind.signed]; omega
  have kw2 := Oct.wraps_i64 (k : Int) (by omega) (by omega)
  have ka := Oct.wraps_i64 a0 x0 (by omega)
  have HP1 : Hid (∀ u, Calls Tryd.prog 16 #[.string (s.extract 0 k)] u fun e u' => e = .returned (.tuple #[.agg #[.int .i64 0, .int .i64 0, .int .u32 0, .string ⟨#[]⟩], .int .i64 2]) ∧ Below u.heap.size u u') := fun u => by
    have e := cut_short s k hk8
    have := parse_any (s.extract 0 k) u (by rw [ByteArray.size_extract]; omega)
    rw [parseH_no (by rw [e]; decide), e] at this
    exact this
  have HP2 : Hid (∀ u, Calls Tryd.prog 16 #[.string (s.extract 0 (8 + m))] u fun e u' => e = .returned (.tuple #[.agg #[.int .i64 0, .int .i64 0, .int .u32 0, .string ⟨#[]⟩], .int .i64 7]) ∧ Below u.heap.size u u') := fun u => by
    have := parse_any (s.extract 0 (8 + m)) u (by rw [ByteArray.size_extract]; omega)
    rw [parseH_no (by rw [hlast]; decide), hlast] at this
    exact this
  have HX := hide (examples_ok w hE)
  have hs1 : (s.size : Int) = 9 + (m : Int) := by omega
  have hs2 : (X.size : Int) = (m : Int) + 1 := by omega
  have hd1 : ((s.size : Int) != 8 + (X.size : Int)) = false := by simp; omega
  obtain ⟨j, hj⟩ : ∃ j : Nat, (s.size : Int) - 1 = j := ⟨8 + m, by omega⟩
  have hjm : 8 + m = j := by omega
  rw [hjm] at HP2
  have hj1 : (j : Int) ≤ s.size := by omega
  have hk1 : (k : Int) ≤ s.size := by omega
  have hXb : (X.size : Int) ≤ 101 := by omega
  have hsb : (s.size : Int) ≤ 200 := by omega
  clear hE hbe hlast hg hBs hXs hbz hs1 hs2 hjm w0 w2 hk x0 x1 y0 y1 hm1 hm2
  go_enter Tryd.func7, Tryd.ntmps7
  go_wp2_with fail
  refine (unhide HX).mono ?_
  rintro e v1 ⟨rfl, hb1⟩
  have HB := hide hb1
  clear hb1
  go_wp2_with fail
  refine (unhide HB1 _).mono ?_
  rintro e v2 ⟨rfl, hb2⟩
  have HB := hide (Below.then (unhide HB) hb2)
  clear hb2
  go_wp2_with fail
  refine (unhide HB2 _).mono ?_
  rintro e v3 ⟨rfl, hb3⟩
  have HB := hide (Below.then (unhide HB) hb3)
  clear hb3
  go_wp2_with fail
  refine (unhide HB3 _).mono ?_
  rintro e v4 ⟨rfl, hb4⟩
  have HB := hide (Below.then (unhide HB) hb4)
  clear hb4
  go_wp2_with fail
  refine (unhide HP1 _).mono ?_
  rintro e v5 ⟨rfl, hb5⟩
  have HB := hide (Below.then (Below.then (unhide HB) hb5) (alloc_on v5 (.cells #[.int .i64 0, .int .i64 0, .int .u32 0, .string ⟨#[]⟩] 24)))
  clear hb5
  go_wp2_with fail
  refine (unhide HP2 _).mono ?_
  rintro e v6 ⟨rfl, hb6⟩
  have HB := hide (Below.then (Below.then (unhide HB) hb6) (alloc_on v6 (.cells #[.int .i64 0, .int .i64 0, .int .u32 0, .string ⟨#[]⟩] 24)))
  clear hb6
  go_wp2_with fail
  go_ret
  exact ⟨rfl, unhide HB⟩

theorem reads (os : Os) {H : Type} (enc : TypeId × Value → H) : DataW.whole enc Tryd.prog ((World.laidAll Tryd.prog os Rows.icmpBuildsRow.laid).forCall (fun _ _ => 0) ⟨#[], #[.int .u8 0, .string ByteArray.empty, .int .u8 0], []⟩).memory Tryd.f7.params.toList Rows.icmpCutSpec.vars false (#[.int .u8 0, .string ByteArray.empty, .int .u8 0] : Array Value).toList 8 = some ([.lit (.int .u8 0), .lit (.string []), .lit (.int .u8 0)], [], []) := by kernel_rfl
set_option maxRecDepth 100000 in
theorem lifted (os : Os) (started : os.Started) (H : Type) (enc : TypeId × Value → H) (F : Stop.Interp) :
    ReturnsInHanded {} Tryd.checked os 7 .any ((OpenSpec.ofChange Rows.icmpCutSpec).preRow enc Tryd.prog Tryd.f7 Rows.icmpCutRow.domain false Rows.icmpCutRow.laid) (((OpenSpec.ofChange Rows.icmpCutSpec).at F).post enc Tryd.prog Tryd.f7 false true false false) := by
  refine returnsInHanded_of_row (C := Tryd.checked) (s := (OpenSpec.ofChange Rows.icmpCutSpec)) own started (by kernel_rfl) Tryd.func7
    (witness_row_at (enc := enc) (C := Tryd.checked) false (World.laidAll Tryd.prog os Rows.icmpBuildsRow.laid) #[.int .u8 0, .string ByteArray.empty, .int .u8 0] (World.laidAll_os _ _ _) (by kernel_rfl) (by kernel_rfl) (by kernel_rfl)
      (OpenSpec.preRow_of_cond 8 (reads os enc) (by kernel_rfl) (fun k hk => by cases hk) (by kernel_rfl) (laid_met os _))) ?_
  intro W base args ds gs before hval0 hW _ hcond hsz hL _ _
  have hval : ∀ (j : Nat) t v, Tryd.f7.params[j]? = some t → args[j]? = some v → Value.okWide Tryd.prog W .any base t v := hval0
  have hW' := hW
  obtain ⟨p, q, hA0, hV, rfl, hfz, hnd⟩ := hW
  have hA : DataW.TrodAll enc Tryd.prog W 0 (fun _ => true) true Tryd.f7.params.toList args.toList ds p := hA0
  rw [Tryd.params7] at hA hval
  obtain ⟨v0, vs0, d0, ds0, p0, q0, hargs, rfl, rfl, h0, r0⟩ := trodAll_cons hA
  obtain ⟨v1, vs1, d1, ds1, p1, q1, rfl, rfl, rfl, h1, r1⟩ := trodAll_cons r0
  obtain ⟨v2, vs2, d2, ds2, p2, q2, rfl, rfl, rfl, h2, r2⟩ := trodAll_cons r1
  obtain ⟨rfl, rfl, rfl⟩ := trodAll_nil r2
  obtain rfl : args = #[v0, v1, v2] := by cases args; simp_all
  obtain ⟨rfl, rfl⟩ := trodVars_none hV
  obtain ⟨a0, rfl, rfl, rfl, w0⟩ := open_int Tryd.underlying5 (hval 0 5 v0 rfl rfl) h0
  obtain ⟨a1, rfl, rfl, rfl, w1⟩ := open_string Tryd.underlying9 (hval 1 9 v1 rfl rfl) h1
  obtain ⟨a2, rfl, rfl, rfl, w2⟩ := open_int Tryd.underlying5 (hval 2 5 v2 rfl rfl) h2
  clear hA0 hval0
  simp only [List.append_nil] at hW'
  have z1 : a1.size ≤ 140737488355328 := by
    have hq : a1.data.toList.length ≤ reachBytes := sized_string hsz (j := 1) (t := 9) rfl rfl
    have e : a1.data.toList.length = a1.size := by rw [Array.length_toList]; rfl
    rw [e] at hq
    exact Nat.le_trans hq (by decide)
  refine (walk W (env_of hL) a0 w0 a1 z1 a2 w2).mono fun e W' ⟨he, bel⟩ => ?_
  subst he
  exact ⟨_, rfl, _, _, _, [], _, [], hW', (trodAll_cons_mk (shut_bool Tryd.underlying4 _) trodAll_mk0), (trodAll_cons_mk (shut_int Tryd.underlying5 w0) (trodAll_cons_mk (shut_string Tryd.underlying9 w1) (trodAll_cons_mk (shut_int Tryd.underlying5 w2) trodAll_mk0))), rfl, bel.frame _, fun h => by cases h⟩

theorem over : Rows.icmpCutRow.holds Tryd.pinned (OpenSpec.ofChange Rows.icmpCutSpec) :=
  OpenClaim.holds_of_cond 7 Tryd.f7 rfl rfl rfl rfl rfl rfl rfl ⟨rfl, rfl, rfl, rfl, rfl⟩ rfl rfl rfl rfl rfl (by kernel_rfl) Tryd.func7 (by kernel_rfl)
    (of_decide_eq_true (by kernel_rfl)) (by unfold Func.isWrapper; first | (rw [if_pos (by decide +kernel)]; kernel_rfl) | (rw [if_neg (by decide +kernel)]; exact ⟨rfl, rfl⟩))
    (fun os started H enc _ F => by rw [OpenClaim.pre_eq_preRow]; exact lifted os started H enc F)

/-- No parameter wants a stand-in; the program's own looks are off. -/
theorem plain (f : FuncId) (fn : Func) (hf : Tryd.pinned.checked.prog.funcNamed Rows.icmpCutRow.func = some f) (hfn : Tryd.pinned.checked.prog.funcs[f]? = some fn) :
    false = Tryd.pinned.checked.prog.looks [] ∧ ∀ (j : Nat) t, fn.params[j]? = some t → Tryd.pinned.checked.prog.wantsStandIn t = false := by
  obtain rfl : f = 7 := Option.some.inj ((show Tryd.prog.funcNamed Rows.icmpCutRow.func = some 7 by kernel_rfl).symm.trans hf) |>.symm
  obtain rfl : fn = Tryd.f7 := (Option.some.inj (Tryd.func7.symm.trans hfn)).symm
  refine ⟨by kernel_rfl, fun j t ht => ?_⟩
  rw [Tryd.params7] at ht
  have hm : t ∈ [5, 9, 5] := by simpa using Array.mem_of_getElem? ht
  have hall : ([5, 9, 5].all fun u => !Tryd.prog.wantsStandIn u) = true := by kernel_rfl
  exact (show Tryd.prog.wantsStandIn t = false by simpa using List.all_eq_true.1 hall t hm)

theorem proved : Rows.IcmpCutCardSaid :=
  Claim7.holds_tied_plain_at .later [] _ _ _ _ over (fun _ h => by cases h) (by kernel_rfl) (fun _ h => by cases h) icmpCut_row_tie rfl ⟨rfl, rfl⟩ (by kernel_rfl) rfl plain (by kernel_rfl)
#print axioms proved
end Go.Proofs.YteggaeleehlhmaaDoor.icmpCut
