/- The law UdpParses returns true for every text, and changes nothing that was there before; no condition but the form's own. -/
import Derived.Test.YteijemjbpfkghaaRows
import Derived.OpenShut
import Derived.ShutString
import Derived.ChangeOld
import Derived.Below
import Derived.SizedLaws
import Derived.Test.YteijemjbpfkghaaUdRef
import Derived.Test.YteijemjbpfkghaaUdEx
namespace Go.Proofs.Yteijemjbpfkghaa.udpParses
open Go.ChangeShapes Go.WideShapes Go.ChangeAt Go.RowKit
open Go.ChangeMaps (open_string shut_string)
set_option linter.unusedVariables false
set_option maxHeartbeats 1000000 in
set_option maxRecDepth 100000 in
theorem walk (w : World) (a0 : ByteArray) (z0 : a0.size ≤ 140737488355328) :
    Calls Try.prog 4 #[.string a0] w fun e w' => e = .returned (.bool true) ∧ Below w.heap.size w w' := by
  have zz : a0.size ≤ 281474976710656 := by omega
  have H1 := hide (fun u => parse_any a0 u zz)
  have H2 := hide (fun u => rparse_any a0 u zz)
  have H3 := hide (fun u => size_any a0 u zz)
  have H4 := hide (fun u => rsize_any a0 u zz)
  generalize parA a0 = a at *
  generalize parB a0 = b at *
  generalize parC a0 = c at *
  generalize measN a0 = n at *
  generalize (measE a0 == 0) = q at *
  generalize measE a0 = x at *
  go_enter Try.func4, Try.ntmps4
  go_wp2_with fail
  refine (examples_ok _).mono ?_
  rintro e w1' ⟨rfl, hb1⟩
  have HB := hide hb1
  clear hb1
  go_wp2_with fail
  refine (unhide H1 _).mono ?_
  rintro e w2' ⟨rfl, hb1⟩
  have HB := hide (Below.then (unhide HB) hb1)
  clear hb1
  go_wp2_with fail
  refine (unhide H2 _).mono ?_
  rintro e w3' ⟨rfl, hb1⟩
  have HB := hide (Below.then (unhide HB) hb1)
  clear hb1
  go_wp2_with fail
  refine (unhide H3 _).mono ?_
  rintro e w4' ⟨rfl, rfl⟩
  go_wp2_with fail
  refine (unhide H4 _).mono ?_
  rintro e w5' ⟨rfl, hb1⟩
  have HB := hide (Below.then (unhide HB) hb1)
  clear hb1
  go_wp2_with fail
  go_ret
  exact ⟨rfl, unhide HB⟩

theorem own : ownKnob Try.prog.godebug = none := by kernel_rfl
set_option maxRecDepth 100000 in
theorem lifted (os : Os) (started : os.Started) (H : Type) (enc : TypeId × Value → H) :
    ReturnsInHanded {} Try.checked os 4 .any (Rows.udpParsesSpec.pre6 enc Try.prog Try.f4 Rows.udpParsesRow.domain false) (Rows.udpParsesSpec.post enc Try.prog Try.f4 false true false false) := by
  refine returnsInHanded_of_change_sized (C := Try.checked) own started (by kernel_rfl) Try.func4
    (ChangeSpec.witness6 (enc := enc) (C := Try.checked) false ⟨#[], #[.string ByteArray.empty], []⟩ 8 (by kernel_rfl) (by kernel_rfl) (by kernel_rfl) (by kernel_rfl)) ?_
  intro W base args ds gs before hval0 hW hcnd hsz _
  have hval : ∀ (j : Nat) t v, Try.f4.params[j]? = some t → args[j]? = some v → Value.okWide Try.prog W .any base t v := hval0
  have hW' := hW
  obtain ⟨p, q, hA0, hV, rfl, hfz, hnd⟩ := hW
  have hA : DataW.TrodAll enc Try.prog W 0 (fun _ => true) true Try.f4.params.toList args.toList ds p := hA0
  rw [Try.params4] at hA hval
  obtain ⟨v0, vs0, d0, ds0, p0, q0, hargs, rfl, rfl, h0, r0⟩ := trodAll_cons hA
  obtain ⟨rfl, rfl, rfl⟩ := trodAll_nil r0
  obtain rfl : args = #[v0] := by cases args; simp_all
  obtain ⟨rfl, rfl⟩ := trodVars_none hV
  obtain ⟨a0, rfl, rfl, rfl, w0⟩ := open_string Try.underlying9 (hval 0 9 v0 rfl rfl) h0
  clear hA0 hval0
  simp only [List.append_nil] at hW'
  have z0 : a0.size ≤ 140737488355328 := by
    have hq : a0.data.toList.length ≤ reachBytes := sized_string hsz (j := 0) (t := 9) rfl rfl
    have e : a0.data.toList.length = a0.size := by rw [Array.length_toList]; rfl
    rw [e] at hq
    exact Nat.le_trans hq (Nat.le_of_lt reachBytes_lt)
  refine (walk W a0 z0).mono fun e W' ⟨he, bel⟩ => ?_
  subst he
  exact ⟨_, rfl, _, _, _, [], _, [], hW', (trodAll_cons_mk (shut_bool Try.underlying4 _) trodAll_mk0), (trodAll_cons_mk (shut_string Try.underlying9 w0) trodAll_mk0), rfl, bel.frame _, fun h => by cases h⟩

theorem over : Rows.udpParsesRow.holds Try.pinned (OpenSpec.ofChange Rows.udpParsesSpec) :=
  OpenClaim.holds_of_wide 4 Try.f4 rfl rfl rfl rfl rfl rfl rfl ⟨rfl, rfl, rfl, rfl, rfl⟩ rfl rfl rfl rfl rfl (by kernel_rfl) Try.func4 (by kernel_rfl)
    (of_decide_eq_true (by kernel_rfl)) (by unfold Func.isWrapper; first | (rw [if_pos (by decide +kernel)]; kernel_rfl) | (rw [if_neg (by decide +kernel)]; exact ⟨rfl, rfl⟩))
    (fun os started H enc _ => lifted os started H enc)

theorem proved : Rows.UdpParsesSaid := over
#print axioms proved
end Go.Proofs.Yteijemjbpfkghaa.udpParses
