/- The law PseudoBehind returns true for every two addresses, every body and every text behind, and changes nothing that was there before; no condition but the form's own. -/
import Derived.Test.YtmeafeomfblncaaRows
import Derived.OpenShut
import Derived.ShutString
import Derived.ChangeOld
import Derived.Below
import Derived.SizedLaws
import Derived.Test.YtmeafeomfblncaaPsLaw
namespace Go.Proofs.Ytmeafeomfblncaa.pseudoBehind
open Go.ChangeShapes Go.WideShapes Go.ChangeAt Go.RowKit
open Go.ChangeMaps (open_string shut_string)
set_option linter.unusedVariables false
set_option maxHeartbeats 4000000 in
set_option maxRecDepth 100000 in
theorem walk (w : World) (a0 : Int) (a1 : Int) (a2 : ByteArray) (a3 : ByteArray) (w0 : (Lit.int .u32 a0).wf = true) (w1 : (Lit.int .u32 a1).wf = true) (z2 : a2.size ≤ 140737488355328) (z3 : a3.size ≤ 140737488355328) :
    Calls Try.prog 7 #[.int .u32 a0, .int .u32 a1, .string a2, .string a3] w fun e w' => e = .returned (.bool true) ∧ Below w.heap.size w w' := by
  obtain ⟨s0, s1⟩ := bounds_u32 w0
  obtain ⟨d0, d1⟩ := bounds_u32 w1
  obtain ⟨m, hmin⟩ : ∃ m : Nat, min (a2.size : Int) 100 = m := ⟨min a2.size 100, by omega⟩
  have hm1 : m ≤ 100 := by omega
  have hm2 : m ≤ a2.size := by omega
  have hm3 : (m : Int) ≤ a2.size := by omega
  have hBs : (a2.extract 0 m).size = m := by rw [Oct.ext_size _ _ _ hm2]; rfl
  generalize hB : a2.extract 0 m = B at *
  have hS : U32 a0 := ⟨s0, by omega⟩
  have hD : U32 a1 := ⟨d0, by omega⟩
  have g : Dg a0 a1 7 9 B := ⟨by decide, by decide, by omega, hS, hD⟩
  have hbe := buildE_of g.pa g.pb g.size
  have HBC : Hid (∀ u, Calls Try.prog 18 #[.int .i64 7, .int .i64 9, .string B] u fun e u' => e = .returned (.tuple #[.string (built 7 9 B), .int .i64 0]) ∧ Below u.heap.size u u') := fun u => by
    have := build_any 7 9 B u (by omega)
    rw [hbe, buildS_of hbe] at this
    exact this
  have hz := built_size g.pa g.pb g.size
  have ht := g.tsize
  have q1 := g.fill.1
  have q2 := (g.fillM a3).1
  have q3 := g.more a3
  have q4 := g.verM a3
  have HF := hide (fun u => pfill_any 17 a0 a1 (built 7 9 B) u ⟨by decide, by decide⟩ hS hD (by omega))
  have HG := hide (fun u => pfill_any 17 a0 a1 (built 7 9 B ++ a3) u ⟨by decide, by decide⟩ hS hD (by rw [ByteArray.size_append]; omega))
  have HV := hide (fun u => pverify_any 17 a0 a1 (fillS 17 a0 a1 (built 7 9 B) ++ a3) u ⟨by decide, by decide⟩ hS hD (by rw [ByteArray.size_append]; omega))
  rw [q1] at HF
  rw [q2, q3] at HG
  rw [q4] at HV
  clear q1 q2 q3 q4 hbe g
  have ha := add_run (built 7 9 B) a3 (by omega) (by omega)
  have hb := add_run (fillS 17 a0 a1 (built 7 9 B)) a3 (by omega) (by omega)
  generalize fillS 17 a0 a1 (built 7 9 B) = T at *
  generalize built 7 9 B = S at *
  generalize S ++ a3 = SM at *
  generalize T ++ a3 = TM at *
  clear hz ht hS hD s0 s1 d0 d1 hm1 hm2 hBs w0 w1
  have HX := hide (examples_ok w)
  go_enter Try.func7, Try.ntmps7
  go_wp2_with fail
  refine (unhide HX).mono ?_
  rintro e v1 ⟨rfl, hq⟩
  have HB1 := hide hq
  clear hq
  go_wp2_with fail
  refine (unhide HBC _).mono ?_
  rintro e v2 ⟨rfl, hq⟩
  have HB2 := hide (Below.then (unhide HB1) hq)
  clear hq
  go_wp2_with fail
  refine (unhide HF _).mono ?_
  rintro e v3 ⟨rfl, hq⟩
  have HB3 := hide (Below.then (unhide HB2) hq)
  clear hq
  go_wp2_with fail
  refine (unhide HG _).mono ?_
  rintro e v4 ⟨rfl, hq⟩
  have HB4 := hide (Below.then (unhide HB3) hq)
  clear hq
  go_wp2_with fail
  refine (unhide HV _).mono ?_
  rintro e v5 ⟨rfl, hq⟩
  have HB5 := hide (Below.then (unhide HB4) hq)
  clear hq
  go_wp2_with fail
  go_ret
  exact ⟨rfl, unhide HB5⟩

theorem own : ownKnob Try.prog.godebug = none := by kernel_rfl
set_option maxRecDepth 100000 in
theorem lifted (os : Os) (started : os.Started) (H : Type) (enc : TypeId × Value → H) :
    ReturnsInHanded {} Try.checked os 7 .any (Rows.pseudoBehindSpec.pre6 enc Try.prog Try.f7 Rows.pseudoBehindRow.domain false) (Rows.pseudoBehindSpec.post enc Try.prog Try.f7 false true false false) := by
  refine returnsInHanded_of_change_sized (C := Try.checked) own started (by kernel_rfl) Try.func7
    (ChangeSpec.witness6 (enc := enc) (C := Try.checked) false ⟨#[], #[.int .u32 0, .int .u32 0, .string ByteArray.empty, .string ByteArray.empty], []⟩ 8 (by kernel_rfl) (by kernel_rfl) (by kernel_rfl) (by kernel_rfl)) ?_
  intro W base args ds gs before hval0 hW hcnd hsz _
  have hval : ∀ (j : Nat) t v, Try.f7.params[j]? = some t → args[j]? = some v → Value.okWide Try.prog W .any base t v := hval0
  have hW' := hW
  obtain ⟨p, q, hA0, hV, rfl, hfz, hnd⟩ := hW
  have hA : DataW.TrodAll enc Try.prog W 0 (fun _ => true) true Try.f7.params.toList args.toList ds p := hA0
  rw [Try.params7] at hA hval
  obtain ⟨v0, vs0, d0, ds0, p0, q0, hargs, rfl, rfl, h0, r0⟩ := trodAll_cons hA
  obtain ⟨v1, vs1, d1, ds1, p1, q1, rfl, rfl, rfl, h1, r1⟩ := trodAll_cons r0
  obtain ⟨v2, vs2, d2, ds2, p2, q2, rfl, rfl, rfl, h2, r2⟩ := trodAll_cons r1
  obtain ⟨v3, vs3, d3, ds3, p3, q3, rfl, rfl, rfl, h3, r3⟩ := trodAll_cons r2
  obtain ⟨rfl, rfl, rfl⟩ := trodAll_nil r3
  obtain rfl : args = #[v0, v1, v2, v3] := by cases args; simp_all
  obtain ⟨rfl, rfl⟩ := trodVars_none hV
  obtain ⟨a0, rfl, rfl, rfl, w0⟩ := open_int Try.underlying22 (hval 0 22 v0 rfl rfl) h0
  obtain ⟨a1, rfl, rfl, rfl, w1⟩ := open_int Try.underlying22 (hval 1 22 v1 rfl rfl) h1
  obtain ⟨a2, rfl, rfl, rfl, w2⟩ := open_string Try.underlying9 (hval 2 9 v2 rfl rfl) h2
  obtain ⟨a3, rfl, rfl, rfl, w3⟩ := open_string Try.underlying9 (hval 3 9 v3 rfl rfl) h3
  clear hA0 hval0
  simp only [List.append_nil] at hW'
  have z2 : a2.size ≤ 140737488355328 := by
    have hq : a2.data.toList.length ≤ reachBytes := sized_string hsz (j := 2) (t := 9) rfl rfl
    have e : a2.data.toList.length = a2.size := by rw [Array.length_toList]; rfl
    rw [e] at hq
    exact Nat.le_trans hq (Nat.le_of_lt reachBytes_lt)
  have z3 : a3.size ≤ 140737488355328 := by
    have hq : a3.data.toList.length ≤ reachBytes := sized_string hsz (j := 3) (t := 9) rfl rfl
    have e : a3.data.toList.length = a3.size := by rw [Array.length_toList]; rfl
    rw [e] at hq
    exact Nat.le_trans hq (Nat.le_of_lt reachBytes_lt)
  refine (walk W a0 a1 a2 a3 w0 w1 z2 z3).mono fun e W' ⟨he, bel⟩ => ?_
  subst he
  exact ⟨_, rfl, _, _, _, [], _, [], hW', (trodAll_cons_mk (shut_bool Try.underlying4 _) trodAll_mk0), (trodAll_cons_mk (shut_int Try.underlying22 w0) (trodAll_cons_mk (shut_int Try.underlying22 w1) (trodAll_cons_mk (shut_string Try.underlying9 w2) (trodAll_cons_mk (shut_string Try.underlying9 w3) trodAll_mk0)))), rfl, bel.frame _, fun h => by cases h⟩

theorem over : Rows.pseudoBehindRow.holds Try.pinned (OpenSpec.ofChange Rows.pseudoBehindSpec) :=
  OpenClaim.holds_of_wide 7 Try.f7 rfl rfl rfl rfl rfl rfl rfl ⟨rfl, rfl, rfl, rfl, rfl⟩ rfl rfl rfl rfl rfl (by kernel_rfl) Try.func7 (by kernel_rfl)
    (of_decide_eq_true (by kernel_rfl)) (by unfold Func.isWrapper; first | (rw [if_pos (by decide +kernel)]; kernel_rfl) | (rw [if_neg (by decide +kernel)]; exact ⟨rfl, rfl⟩))
    (fun os started H enc _ => lifted os started H enc)

theorem proved : Rows.PseudoBehindSaid := over
#print axioms proved
end Go.Proofs.Ytmeafeomfblncaa.pseudoBehind
