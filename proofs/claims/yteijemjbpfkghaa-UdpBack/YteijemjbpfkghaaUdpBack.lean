/- The law UdpBack returns true for every two ports, body, text behind and place, and changes nothing that was there before; no condition but the form's own. -/
import Derived.Test.YteijemjbpfkghaaRows
import Derived.OpenShut
import Derived.ShutString
import Derived.ChangeOld
import Derived.Below
import Derived.SizedLaws
import Derived.Test.YteijemjbpfkghaaUdEx
namespace Go.Proofs.Yteijemjbpfkghaa.udpBack
open Go.ChangeShapes Go.WideShapes Go.ChangeAt Go.RowKit
open Go.ChangeMaps (open_string shut_string)
set_option linter.unusedVariables false
/-- The place: cut, or what it is turned into below 0. -/
theorem place (c n : Int) (h0 : -9223372036854775808 ≤ c) (h1 : c ≤ 9223372036854775807) (hn : 0 < n) : ∃ (K : Nat) (d : Int), (d = if c < 0 then -(c + 1) else c) ∧ 0 ≤ d ∧ d ≤ 9223372036854775807 ∧ d.tmod n = K ∧ (K : Int) < n := by
  refine ⟨((if c < 0 then -(c + 1) else c) % n).toNat, _, rfl, ?_, ?_, ?_, ?_⟩
  · split <;> omega
  · split <;> omega
  · rw [Int.tmod_eq_emod_of_nonneg (by split <;> omega)]
    have := Int.emod_nonneg (if c < 0 then -(c + 1) else c) (show n ≠ 0 by omega)
    omega
  · have := Int.emod_nonneg (if c < 0 then -(c + 1) else c) (show n ≠ 0 by omega)
    have := Int.emod_lt_of_pos (if c < 0 then -(c + 1) else c) hn
    omega
set_option maxHeartbeats 1000000 in
set_option maxRecDepth 100000 in
theorem walk (w : World) (a0 : Int) (a1 : Int) (a2 : ByteArray) (a3 : ByteArray) (a4 : Int) (w0 : (Lit.int .u16 a0).wf = true) (w1 : (Lit.int .u16 a1).wf = true) (z2 : a2.size ≤ 140737488355328) (z3 : a3.size ≤ 140737488355328) (w4 : (Lit.int .i64 a4).wf = true) :
    Calls Try.prog 5 #[.int .u16 a0, .int .u16 a1, .string a2, .string a3, .int .i64 a4] w fun e w' => e = .returned (.bool true) ∧ Below w.heap.size w w' := by
  obtain ⟨x0, x1⟩ := bounds_u16 w0
  obtain ⟨y0, y1⟩ := bounds_u16 w1
  obtain ⟨c0, c1⟩ := bounds_i64 w4
  have pa : inP a0 = true := (inP_iff _).2 ⟨x0, x1⟩
  have pb : inP a1 = true := (inP_iff _).2 ⟨y0, y1⟩
  obtain ⟨m, hmin⟩ : ∃ m : Nat, min (a2.size : Int) 300 = m := ⟨min a2.size 300, by omega⟩
  have hm2 : m ≤ a2.size := by omega
  have hm3 : (m : Int) ≤ a2.size := by omega
  have hBs : (a2.extract 0 m).size = m := by rw [Oct.ext_size _ _ _ hm2]; rfl
  have hB : (a2.extract 0 m).size ≤ 1492 := by rw [hBs]; omega
  have hbe := buildE_of pa pb hB
  have HBC : Hid (∀ u, Calls Try.prog 10 #[.int .i64 a0, .int .i64 a1, .string (a2.extract 0 m)] u fun e u' => e = .returned (.tuple #[.string (built a0 a1 (a2.extract 0 m)), .int .i64 0]) ∧ Below u.heap.size u u') := fun u => by
    have := build_any a0 a1 (a2.extract 0 m) u (by omega)
    rw [hbe, buildS_of hbe] at this
    exact this
  have hz := built_size pa pb hB
  obtain ⟨p0, p1, p2, p3, p4⟩ := parse_built pa pb hB a3
  have hcut := cut_no pa pb hB
  rw [hBs] at hz
  have hsm : (built a0 a1 (a2.extract 0 m) ++ a3).size ≤ 281474976710656 := by rw [ByteArray.size_append]; omega
  have HPC : Hid (∀ u, Calls Try.prog 12 #[.string (built a0 a1 (a2.extract 0 m) ++ a3)] u fun e u' => e = .returned (.tuple #[.int .i64 a0, .int .i64 a1, .string (a2.extract 0 m), .int .i64 0]) ∧ Below u.heap.size u u') := fun u => by
    have := parse_any (built a0 a1 (a2.extract 0 m) ++ a3) u hsm
    rw [p0, p2, p3, p4] at this
    exact this
  have HSC : Hid (∀ u, Calls Try.prog 14 #[.string (built a0 a1 (a2.extract 0 m) ++ a3)] u fun e u' => e = .returned (.tuple #[.int .i64 (8 + (m : Int)), .bool true]) ∧ u' = u) := fun u => by
    have := size_any (built a0 a1 (a2.extract 0 m) ++ a3) u hsm
    rw [p0, p1, hBs] at this
    exact this
  have ha := add_run (built a0 a1 (a2.extract 0 m)) a3 (by omega) z3
  rw [hBs] at hcut
  generalize built a0 a1 (a2.extract 0 m) = S at *
  generalize hBB : a2.extract 0 m = B at *
  obtain ⟨K, d, hd, d0, d1, hK, hKl⟩ := place a4 (S.size : Int) c0 c1 (by omega)
  have hKS : (K : Int) ≤ S.size := by omega
  have hxs : (S.extract 0 K).size ≤ 281474976710656 := by rw [Oct.ext_size _ _ _ (by omega)]; omega
  have hno := hcut K (by omega)
  have HPX : Hid (∀ u, Calls Try.prog 12 #[.string (S.extract 0 K)] u fun e u' => e = .returned (.tuple #[.int .i64 (parA (S.extract 0 K)), .int .i64 (parB (S.extract 0 K)), .string (parC (S.extract 0 K)), .int .i64 (measE (S.extract 0 K))]) ∧ Below u.heap.size u u') := fun u => parse_any _ u hxs
  have HSX : Hid (∀ u, Calls Try.prog 14 #[.string (S.extract 0 K)] u fun e u' => e = .returned (.tuple #[.int .i64 (measN (S.extract 0 K)), .bool false]) ∧ u' = u) := fun u => by
    have := size_any (S.extract 0 K) u hxs
    rw [show (measE (S.extract 0 K) == 0) = false by simpa using hno] at this
    exact this
  have hne : ¬ ((S.size : Int) = 0) := by omega
  have hd1 : ((S.size : Int) != 8 + (m : Int)) = false := by simp; omega
  have hd2 : (8 + (m : Int) == (S.size : Int)) = true := by simp; omega
  have hdx : (measE (S.extract 0 K) != 0) = true := by simpa using hno
  have hBm : (B.size : Int) = m := by omega
  have hSm : (S.size : Int) ≤ 308 := by omega
  have HBM := hide hBm
  clear p0 p1 p2 p3 p4 hcut hbe hno hsm hB hxs pa pb hz hBs hBm hm2
  generalize hX : S.extract 0 K = X at *
  generalize parA X = pA at *
  generalize parB X = pB at *
  generalize parC X = pC at *
  generalize measN X = mN at *
  generalize measE X = mE at *
  generalize S ++ a3 = SM at *
  clear w4 w0 w1
  by_cases hc : a4 < 0
  · rw [if_pos hc] at hd
    have dc : decide (a4 < 0) = true := by simpa using hc
    rw [hd, Int.neg_tmod] at hK
    go_enter Try.func5, Try.ntmps5
    go_wp2_with fail
    refine (examples_ok _).mono ?_
    rintro e w1' ⟨rfl, hb1⟩
    have HB := hide hb1
    clear hb1
    go_wp2_with fail
    refine (HBC.out _).mono ?_
    rintro e w2' ⟨rfl, hb1⟩
    have HB := hide (Below.then (unhide HB) hb1)
    clear hb1
    have hBm := unhide HBM
    go_wp2_with fail
    refine (HPC.out _).mono ?_
    rintro e w3' ⟨rfl, hb1⟩
    have HB := hide (Below.then (unhide HB) hb1)
    clear hb1
    go_wp2_with fail
    refine (HSC.out _).mono ?_
    rintro e w4' ⟨rfl, rfl⟩
    go_wp2_with fail
    refine (HPX.out _).mono ?_
    rintro e w5' ⟨rfl, hb1⟩
    have HB := hide (Below.then (unhide HB) hb1)
    clear hb1
    go_wp2_with fail
    refine (HSX.out _).mono ?_
    rintro e w6' ⟨rfl, rfl⟩
    go_wp2_with fail
    go_ret
    exact ⟨rfl, unhide HB⟩
  · rw [if_neg hc] at hd
    subst hd
    have dc : decide (d < 0) = false := by simpa using hc
    go_enter Try.func5, Try.ntmps5
    go_wp2_with fail
    refine (examples_ok _).mono ?_
    rintro e w1' ⟨rfl, hb1⟩
    have HB := hide hb1
    clear hb1
    go_wp2_with fail
    refine (HBC.out _).mono ?_
    rintro e w2' ⟨rfl, hb1⟩
    have HB := hide (Below.then (unhide HB) hb1)
    clear hb1
    have hBm := unhide HBM
    go_wp2_with fail
    refine (HPC.out _).mono ?_
    rintro e w3' ⟨rfl, hb1⟩
    have HB := hide (Below.then (unhide HB) hb1)
    clear hb1
    go_wp2_with fail
    refine (HSC.out _).mono ?_
    rintro e w4' ⟨rfl, rfl⟩
    go_wp2_with fail
    refine (HPX.out _).mono ?_
    rintro e w5' ⟨rfl, hb1⟩
    have HB := hide (Below.then (unhide HB) hb1)
    clear hb1
    go_wp2_with fail
    refine (HSX.out _).mono ?_
    rintro e w6' ⟨rfl, rfl⟩
    go_wp2_with fail
    go_ret
    exact ⟨rfl, unhide HB⟩

theorem own : ownKnob Try.prog.godebug = none := by kernel_rfl
set_option maxRecDepth 100000 in
theorem lifted (os : Os) (started : os.Started) (H : Type) (enc : TypeId × Value → H) :
    ReturnsInHanded {} Try.checked os 5 .any (Rows.udpBackSpec.pre6 enc Try.prog Try.f5 Rows.udpBackRow.domain false) (Rows.udpBackSpec.post enc Try.prog Try.f5 false true false false) := by
  refine returnsInHanded_of_change_sized (C := Try.checked) own started (by kernel_rfl) Try.func5
    (ChangeSpec.witness6 (enc := enc) (C := Try.checked) false ⟨#[], #[.int .u16 0, .int .u16 0, .string ByteArray.empty, .string ByteArray.empty, .int .i64 0], []⟩ 8 (by kernel_rfl) (by kernel_rfl) (by kernel_rfl) (by kernel_rfl)) ?_
  intro W base args ds gs before hval0 hW hcnd hsz _
  have hval : ∀ (j : Nat) t v, Try.f5.params[j]? = some t → args[j]? = some v → Value.okWide Try.prog W .any base t v := hval0
  have hW' := hW
  obtain ⟨p, q, hA0, hV, rfl, hfz, hnd⟩ := hW
  have hA : DataW.TrodAll enc Try.prog W 0 (fun _ => true) true Try.f5.params.toList args.toList ds p := hA0
  rw [Try.params5] at hA hval
  obtain ⟨v0, vs0, d0, ds0, p0, q0, hargs, rfl, rfl, h0, r0⟩ := trodAll_cons hA
  obtain ⟨v1, vs1, d1, ds1, p1, q1, rfl, rfl, rfl, h1, r1⟩ := trodAll_cons r0
  obtain ⟨v2, vs2, d2, ds2, p2, q2, rfl, rfl, rfl, h2, r2⟩ := trodAll_cons r1
  obtain ⟨v3, vs3, d3, ds3, p3, q3, rfl, rfl, rfl, h3, r3⟩ := trodAll_cons r2
  obtain ⟨v4, vs4, d4, ds4, p4, q4, rfl, rfl, rfl, h4, r4⟩ := trodAll_cons r3
  obtain ⟨rfl, rfl, rfl⟩ := trodAll_nil r4
  obtain rfl : args = #[v0, v1, v2, v3, v4] := by cases args; simp_all
  obtain ⟨rfl, rfl⟩ := trodVars_none hV
  obtain ⟨a0, rfl, rfl, rfl, w0⟩ := open_int Try.underlying36 (hval 0 36 v0 rfl rfl) h0
  obtain ⟨a1, rfl, rfl, rfl, w1⟩ := open_int Try.underlying36 (hval 1 36 v1 rfl rfl) h1
  obtain ⟨a2, rfl, rfl, rfl, w2⟩ := open_string Try.underlying9 (hval 2 9 v2 rfl rfl) h2
  obtain ⟨a3, rfl, rfl, rfl, w3⟩ := open_string Try.underlying9 (hval 3 9 v3 rfl rfl) h3
  obtain ⟨a4, rfl, rfl, rfl, w4⟩ := open_int Try.underlying3 (hval 4 3 v4 rfl rfl) h4
  clear hA0 hval0
  simp only [List.append_nil] at hW'
  have z2 : a2.size ≤ 140737488355328 := by
    have hq : a2.data.toList.length ≤ reachBytes := sized_string hsz (j := 2) (t := 9) rfl rfl
    have e : a2.data.toList.length = a2.size := by rw [Array.length_toList]; rfl
    rw [e] at hq
    exact Nat.le_trans hq (Nat.le_of_lt reachBytes_lt)
  have z3 : a3.size ≤ 140737488355328 := by
    have hq : a3.data.toList.length ≤ reachBytes := sized_string hsz (j := 3) (t := 9) rfl rfl
    have e : a3.data.toList.length = a3.size := by rw [Array.length_toList]; rfl
    rw [e] at hq
    exact Nat.le_trans hq (Nat.le_of_lt reachBytes_lt)
  refine (walk W a0 a1 a2 a3 a4 w0 w1 z2 z3 w4).mono fun e W' ⟨he, bel⟩ => ?_
  subst he
  exact ⟨_, rfl, _, _, _, [], _, [], hW', (trodAll_cons_mk (shut_bool Try.underlying4 _) trodAll_mk0), (trodAll_cons_mk (shut_int Try.underlying36 w0) (trodAll_cons_mk (shut_int Try.underlying36 w1) (trodAll_cons_mk (shut_string Try.underlying9 w2) (trodAll_cons_mk (shut_string Try.underlying9 w3) (trodAll_cons_mk (shut_int Try.underlying3 w4) trodAll_mk0))))), rfl, bel.frame _, fun h => by cases h⟩

theorem over : Rows.udpBackRow.holds Try.pinned (OpenSpec.ofChange Rows.udpBackSpec) :=
  OpenClaim.holds_of_wide 5 Try.f5 rfl rfl rfl rfl rfl rfl rfl ⟨rfl, rfl, rfl, rfl, rfl⟩ rfl rfl rfl rfl rfl (by kernel_rfl) Try.func5 (by kernel_rfl)
    (of_decide_eq_true (by kernel_rfl)) (by unfold Func.isWrapper; first | (rw [if_pos (by decide +kernel)]; kernel_rfl) | (rw [if_neg (by decide +kernel)]; exact ⟨rfl, rfl⟩))
    (fun os started H enc _ => lifted os started H enc)

theorem proved : Rows.UdpBackSaid := over
#print axioms proved
end Go.Proofs.Yteijemjbpfkghaa.udpBack
