/- OctetPlaces answers true for every text, every two numbers of 32 bits and every place, and changes nothing that was there before; no condition. -/
import Derived.Test.YtpjjmioccgolcaaRows
import Derived.Test.YtpjjmioccgolcaaMore
import Derived.WalkKit
import Derived.ProofKit
import Derived.OpenShut
import Derived.ShutString
namespace Go.Proofs.Ytpjjmioccgolcaa.octetPlaces
open Go.ChangeShapes Go.WideShapes Go.ChangeAt Go.RowKit
open Go.ChangeMaps (open_string shut_string)
set_option linter.unusedVariables false      -- a walk need not use every 'w<i>' (that an integer argument fits its kind)

theorem own : ownKnob Try.prog.godebug = none := by kernel_rfl

/-! ### STEP 1: THE WALK: the Go text returns true. 'Grown w w'': the world has at most new blocks (Derived/RowKit3.lean). Part the cases AHEAD of 'go_enter' where a test parts the walk; take each callee by a contract of your own. -/
set_option maxHeartbeats 1000000 in
theorem walks (a0 : ByteArray) (a1 a2 a3 : Int) (w0 : a0.size ≤ maxLen) (hl : (a0.size : Int) < 8) (w : World) :
    Calls Try.prog 6 #[.string a0, .int .u32 a1, .int .u32 a2, .int .i64 a3] w fun e w' => e = .returned (.bool true) ∧ Grown w w' := by
  unfold maxLen at w0
  go_enter Try.func6, Try.ntmps6
  go_wp2_with fail
  refine (examples_ok _).mono ?_
  rintro e w1 ⟨rfl, hg1⟩
  go_wp2_with fail
  go_ret
  exact ⟨rfl, hg1⟩

set_option maxHeartbeats 1000000 in
theorem walkp (a0 : ByteArray) (a1 a2 a3 : Int) (w0 : a0.size ≤ maxLen) (b0 : 0 ≤ a1) (b1 : a1 ≤ 4294967295) (c0 : 0 ≤ a2) (c1 : a2 ≤ 4294967295) (hl : 8 ≤ (a0.size : Int)) (hp : 0 ≤ a3) (lo : -9223372036854775808 ≤ a3) (hi : a3 ≤ 9223372036854775807) (w : World) :
    Calls Try.prog 6 #[.string a0, .int .u32 a1, .int .u32 a2, .int .i64 a3] w fun e w' => e = .returned (.bool true) ∧ Grown w w' := by
  have w0' := w0
  unfold maxLen at w0
  go_enter Try.func6, Try.ntmps6
  go_wp2_with fail
  refine (examples_ok _).mono ?_
  rintro e w1 ⟨rfl, hg1⟩
  go_wp2_with fail
  have hq := Oct.place_p a3 a0.size hl (by omega)
  revert hq
  generalize wrap64 (4 + a3 % ((a0.size : Int) - 7)) = q
  rintro ⟨hq1, hq2⟩
  refine (set_ex _ _ _ _ w0' (by omega) (by omega) b0 (by omega)).mono ?_
  rintro e w2 ⟨x, rfl, hx, zx, hg2⟩
  have zx' : x.size ≤ maxLen := by rw [zx]; exact w0'
  go_wp2_with fail
  refine (set_ex _ _ _ _ zx' (by omega) (by omega) c0 (by omega)).mono ?_
  rintro e w3 ⟨x2, rfl, hx2, zx2, hg3⟩
  have zx2' : x2.size ≤ maxLen := by rw [zx2]; exact zx'
  go_wp2_with fail
  refine (set_ex _ _ _ _ w0' (by omega) (by omega) c0 (by omega)).mono ?_
  rintro e w4 ⟨y, rfl, hy, zy, hg4⟩
  have zy' : y.size ≤ maxLen := by rw [zy]; exact w0'
  go_wp2_with fail
  refine (set_ex _ _ _ _ zy' (by omega) (by omega) b0 (by omega)).mono ?_
  rintro e w5 ⟨y2, rfl, hy2, zy2, hg5⟩
  go_wp2_with fail
  refine (get_ex _ _ _ zx2' (by omega) (by omega)).mono ?_
  rintro e w6 ⟨u, rfl, hu, rfl⟩
  go_wp2_with fail
  refine (get_ex _ _ _ zx2' (by omega) (by omega)).mono ?_
  rintro e w7 ⟨v, rfl, hv, rfl⟩
  have hl' : q.toNat ≤ a0.data.toList.length := by rw [Oct.len_eq]; omega
  obtain rfl : u = a1 := by
    rw [hu.out, hx2.out, hx.out]
    have := Oct.got_zero a0.data.toList q.toNat a1.toNat a2.toNat (by omega) (by omega)
    simp only [Int.toNat_zero] at this ⊢
    rw [this]; omega
  obtain rfl : v = a2 := by
    rw [hv.out, hx2.out, Oct.got_there x.data.toList q.toNat a2.toNat (by rw [Oct.len_eq]; omega) (by omega)]; omega
  obtain rfl : y2 = x2 := by
    apply Oct.ba_ext
    rw [hy2.out, hy.out, hx2.out, hx.out]
    exact (Oct.put_comm a0.data.toList q.toNat u.toNat v.toNat (by omega) hl').symm
  go_wp2_with fail
  go_ret
  exact ⟨rfl, Oct.grown_trans (Oct.grown_trans (Oct.grown_trans (Oct.grown_trans hg1 hg2) hg3) hg4) hg5⟩

set_option maxHeartbeats 1000000 in
theorem walkn (a0 : ByteArray) (a1 a2 a3 : Int) (w0 : a0.size ≤ maxLen) (b0 : 0 ≤ a1) (b1 : a1 ≤ 4294967295) (c0 : 0 ≤ a2) (c1 : a2 ≤ 4294967295) (hl : 8 ≤ (a0.size : Int)) (hp : a3 < 0) (lo : -9223372036854775808 ≤ a3) (hi : a3 ≤ 9223372036854775807) (w : World) :
    Calls Try.prog 6 #[.string a0, .int .u32 a1, .int .u32 a2, .int .i64 a3] w fun e w' => e = .returned (.bool true) ∧ Grown w w' := by
  have w0' := w0
  unfold maxLen at w0
  go_enter Try.func6, Try.ntmps6
  go_wp2_with fail
  refine (examples_ok _).mono ?_
  rintro e w1 ⟨rfl, hg1⟩
  go_wp2_with fail
  have hq := Oct.place_n a3 a0.size hp hl (by omega)
  revert hq
  generalize wrap64 (4 + -(a3 + 1).tmod ((a0.size : Int) - 7)) = q
  rintro ⟨hq1, hq2⟩
  refine (set_ex _ _ _ _ w0' (by omega) (by omega) b0 (by omega)).mono ?_
  rintro e w2 ⟨x, rfl, hx, zx, hg2⟩
  have zx' : x.size ≤ maxLen := by rw [zx]; exact w0'
  go_wp2_with fail
  refine (set_ex _ _ _ _ zx' (by omega) (by omega) c0 (by omega)).mono ?_
  rintro e w3 ⟨x2, rfl, hx2, zx2, hg3⟩
  have zx2' : x2.size ≤ maxLen := by rw [zx2]; exact zx'
  go_wp2_with fail
  refine (set_ex _ _ _ _ w0' (by omega) (by omega) c0 (by omega)).mono ?_
  rintro e w4 ⟨y, rfl, hy, zy, hg4⟩
  have zy' : y.size ≤ maxLen := by rw [zy]; exact w0'
  go_wp2_with fail
  refine (set_ex _ _ _ _ zy' (by omega) (by omega) b0 (by omega)).mono ?_
  rintro e w5 ⟨y2, rfl, hy2, zy2, hg5⟩
  go_wp2_with fail
  refine (get_ex _ _ _ zx2' (by omega) (by omega)).mono ?_
  rintro e w6 ⟨u, rfl, hu, rfl⟩
  go_wp2_with fail
  refine (get_ex _ _ _ zx2' (by omega) (by omega)).mono ?_
  rintro e w7 ⟨v, rfl, hv, rfl⟩
  have hl' : q.toNat ≤ a0.data.toList.length := by rw [Oct.len_eq]; omega
  obtain rfl : u = a1 := by
    rw [hu.out, hx2.out, hx.out]
    have := Oct.got_zero a0.data.toList q.toNat a1.toNat a2.toNat (by omega) (by omega)
    simp only [Int.toNat_zero] at this ⊢
    rw [this]; omega
  obtain rfl : v = a2 := by
    rw [hv.out, hx2.out, Oct.got_there x.data.toList q.toNat a2.toNat (by rw [Oct.len_eq]; omega) (by omega)]; omega
  obtain rfl : y2 = x2 := by
    apply Oct.ba_ext
    rw [hy2.out, hy.out, hx2.out, hx.out]
    exact (Oct.put_comm a0.data.toList q.toNat u.toNat v.toNat (by omega) hl').symm
  go_wp2_with fail
  go_ret
  exact ⟨rfl, Oct.grown_trans (Oct.grown_trans (Oct.grown_trans (Oct.grown_trans hg1 hg2) hg3) hg4) hg5⟩

set_option maxHeartbeats 1000000 in
theorem walk (a0 : ByteArray) (a1 : Int) (a2 : Int) (a3 : Int) (w0 : a0.size ≤ maxLen) (w1 : (Lit.int .u32 a1).wf = true) (w2 : (Lit.int .u32 a2).wf = true) (w3 : (Lit.int .i64 a3).wf = true) (w : World) :
    Calls Try.prog 6 #[.string a0, .int .u32 a1, .int .u32 a2, .int .i64 a3] w fun e w' => e = .returned (.bool true) ∧ Grown w w' := by
  have b0 : 0 ≤ a1 := (bounds_u32 w1).1
  have b1 : a1 ≤ 4294967295 := (bounds_u32 w1).2
  have c0 : 0 ≤ a2 := (bounds_u32 w2).1
  have c1 : a2 ≤ 4294967295 := (bounds_u32 w2).2
  have d0 := (bounds_i64 w3).1
  have d1 := (bounds_i64 w3).2
  by_cases hl : 8 ≤ (a0.size : Int)
  · by_cases hp : 0 ≤ a3
    · exact walkp a0 a1 a2 a3 w0 b0 b1 c0 c1 hl hp d0 d1 w
    · exact walkn a0 a1 a2 a3 w0 b0 b1 c0 c1 hl (by omega) d0 d1 w
  · exact walks a0 a1 a2 a3 w0 (by omega) w

/-! ### THE ROW's STEP: WRITTEN OUT: LEAVE IT -/
set_option maxRecDepth 100000 in
theorem lifted (os : Os) (started : os.Started) (H : Type) (enc : TypeId × Value → H) :
    ReturnsInHanded {} Try.checked os 6 .any (Rows.octetPlacesSpec.pre6 enc Try.prog Try.f6 Rows.octetPlacesRow.domain false) (Rows.octetPlacesSpec.post enc Try.prog Try.f6 false true false false) := by
  refine returnsInHanded_of_change (C := Try.checked) own started (by kernel_rfl) Try.func6
    (ChangeSpec.witness6 (enc := enc) (C := Try.checked) false ⟨#[], #[.string ByteArray.empty, .int .u32 0, .int .u32 0, .int .i64 0], []⟩ 8 (by kernel_rfl) (by kernel_rfl) (by kernel_rfl) (by kernel_rfl)) ?_
  intro W base args ds gs before hval0 hW hcnd _
  have hval : ∀ (j : Nat) t v, Try.f6.params[j]? = some t → args[j]? = some v → Value.okWide Try.prog W .any base t v := hval0
  have hW' := hW
  obtain ⟨p, q, hA0, hV, rfl, hfz, hnd⟩ := hW
  have hA : DataW.TrodAll enc Try.prog W 0 (fun _ => true) true Try.f6.params.toList args.toList ds p := hA0
  rw [Try.params6] at hA hval
  obtain ⟨v0, vs0, d0, ds0, p0, q0, hargs, rfl, rfl, h0, r0⟩ := trodAll_cons hA
  obtain ⟨v1, vs1, d1, ds1, p1, q1, rfl, rfl, rfl, h1, r1⟩ := trodAll_cons r0
  obtain ⟨v2, vs2, d2, ds2, p2, q2, rfl, rfl, rfl, h2, r2⟩ := trodAll_cons r1
  obtain ⟨v3, vs3, d3, ds3, p3, q3, rfl, rfl, rfl, h3, r3⟩ := trodAll_cons r2
  obtain ⟨rfl, rfl, rfl⟩ := trodAll_nil r3
  obtain rfl : args = #[v0, v1, v2, v3] := by cases args; simp_all
  obtain ⟨rfl, rfl⟩ := trodVars_none hV
  obtain ⟨a0, rfl, rfl, rfl, w0⟩ := open_string Try.underlying9 (hval 0 9 v0 rfl rfl) h0
  obtain ⟨a1, rfl, rfl, rfl, w1⟩ := open_int Try.underlying29 (hval 1 29 v1 rfl rfl) h1
  obtain ⟨a2, rfl, rfl, rfl, w2⟩ := open_int Try.underlying29 (hval 2 29 v2 rfl rfl) h2
  obtain ⟨a3, rfl, rfl, rfl, w3⟩ := open_int Try.underlying3 (hval 3 3 v3 rfl rfl) h3
  clear hA0 hval0
  simp only [List.append_nil] at hW'
  refine (walk a0 a1 a2 a3 w0 w1 w2 w3 W).mono fun e W' ⟨he, hg⟩ => ?_
  subst he
  exact ⟨_, rfl, post_of_same (pa := []) (pv := []) hW' (fun _ _ _ => (trodAll_cons_mk (shut_bool Try.underlying4 _) trodAll_mk0)) (fun sp _ => (trodAll_cons_mk (shut_string Try.underlying9 w0) (trodAll_cons_mk (shut_int Try.underlying29 w1) (trodAll_cons_mk (shut_int Try.underlying29 w2) (trodAll_cons_mk (shut_int Try.underlying3 w3) trodAll_mk0))))) (fun _ _ => rfl) rfl
    (hg.frame _) hg.2.1 (ok_one (by kernel_rfl) rfl (okWide_bool_mk Try.underlying4 _))⟩

theorem over : Rows.octetPlacesRow.holds Try.pinned (OpenSpec.ofChange Rows.octetPlacesSpec) :=
  OpenClaim.holds_of_wide 6 Try.f6 rfl rfl rfl rfl rfl rfl rfl ⟨rfl, rfl, rfl, rfl, rfl⟩ rfl rfl rfl rfl rfl (by kernel_rfl) Try.func6 (by kernel_rfl)
    (of_decide_eq_true (by kernel_rfl)) (by unfold Func.isWrapper; first | (rw [if_pos (by decide +kernel)]; kernel_rfl) | (rw [if_neg (by decide +kernel)]; exact ⟨rfl, rfl⟩))
    (fun os started H enc _ => lifted os started H enc)

/-- ████ THE STATEMENT ████ -/
theorem proved : Rows.OctetPlacesSaid :=
  over
#print axioms proved
end Go.Proofs.Ytpjjmioccgolcaa.octetPlaces
