/- The law SipSame returns true for every key and every text, and changes nothing that was there before; no condition but the form's own. -/
import Derived.Test.YtbiilgdgmedpkaaRows
import Derived.OpenShut
import Derived.ShutString
import Derived.ChangeOld
import Derived.Below
import Derived.SizedLaws
import Derived.Test.YtbiilgdgmedpkaaSpEx
namespace Go.Proofs.Ytbiilgdgmedpkaa.sipSame
open Go.ChangeShapes Go.WideShapes Go.ChangeAt Go.RowKit
open Go.ChangeMaps (open_string shut_string)
set_option linter.unusedVariables false
set_option maxHeartbeats 1000000 in
set_option maxRecDepth 100000 in
theorem walk (w : World) (a0 : ByteArray) (a1 : ByteArray) (z0 : a0.size ≤ 140737488355328) (z1 : a1.size ≤ 140737488355328) :
    Calls Try.prog 5 #[.string a0, .string a1] w fun e w' => e = .returned (.bool true) ∧ Below w.heap.size w w' := by
  obtain ⟨m, hmin⟩ : ∃ m : Nat, min (a0.size : Int) 60 = m := ⟨min a0.size 60, by omega⟩
  have hm2 : m ≤ a0.size := by omega
  have hm3 : (m : Int) ≤ a0.size := by omega
  have hKs : (a0.extract 0 m).size = m := by rw [ext_size _ _ _ hm2]; rfl
  have H1 := hide (fun u => hash_any (a0.extract 0 m) a1 u (by unfold maxLen; omega))
  obtain ⟨B, hB, hB2⟩ : ∃ B, ((a0.extract 0 m).size == 16) = B ∧ ((m : Int) == 16) = B := ⟨_, rfl, by rw [hKs]; exact Bool.eq_iff_iff.2 (by rw [beq_iff_eq, beq_iff_eq]; omega)⟩
  have hz : B = false → Sp.nn (Sp.hashV (a0.extract 0 m) a1) = 0 := fun h => by
    rw [← hB] at h
    have : (a0.extract 0 m).size ≠ 16 := by simpa using h
    unfold Sp.hashV
    rw [if_neg this]; rfl
  rw [hB] at H1
  generalize Sp.hashV (a0.extract 0 m) a1 = x at *
  generalize hK : a0.extract 0 m = K at *
  have hKs2 : (K.size : Int) = m := by omega
  have HZ := hide hz
  clear hz hKs hB
  go_enter Try.func5, Try.ntmps5
  go_wp2_with fail
  refine (examples_any _).mono ?_
  rintro e w1' ⟨rfl, hb1⟩
  have HB := hide hb1
  clear hb1
  go_wp2_with fail
  refine (unhide H1 _).mono ?_
  rintro e w2' ⟨rfl, hb1⟩
  have HB := hide (Below.then (unhide HB) hb1)
  clear hb1
  go_wp2_with fail
  refine (unhide H1 _).mono ?_
  rintro e w3' ⟨rfl, hb1⟩
  have HB := hide (Below.then (unhide HB) hb1)
  clear hb1
  cases B with
  | true =>
    go_wp2_with fail
    go_ret
    exact ⟨rfl, unhide HB⟩
  | false =>
    have hx := unhide HZ rfl
    go_wp2_with fail
    go_ret
    exact ⟨rfl, unhide HB⟩

theorem own : ownKnob Try.prog.godebug = none := by kernel_rfl
set_option maxRecDepth 100000 in
theorem lifted (os : Os) (started : os.Started) (H : Type) (enc : TypeId × Value → H) :
    ReturnsInHanded {} Try.checked os 5 .any (Rows.sipSameSpec.pre6 enc Try.prog Try.f5 Rows.sipSameRow.domain false) (Rows.sipSameSpec.post enc Try.prog Try.f5 false true false false) := by
  refine returnsInHanded_of_change_sized (C := Try.checked) own started (by kernel_rfl) Try.func5
    (ChangeSpec.witness6 (enc := enc) (C := Try.checked) false ⟨#[], #[.string ByteArray.empty, .string ByteArray.empty], []⟩ 8 (by kernel_rfl) (by kernel_rfl) (by kernel_rfl) (by kernel_rfl)) ?_
  intro W base args ds gs before hval0 hW hcnd hsz _
  have hval : ∀ (j : Nat) t v, Try.f5.params[j]? = some t → args[j]? = some v → Value.okWide Try.prog W .any base t v := hval0
  have hW' := hW
  obtain ⟨p, q, hA0, hV, rfl, hfz, hnd⟩ := hW
  have hA : DataW.TrodAll enc Try.prog W 0 (fun _ => true) true Try.f5.params.toList args.toList ds p := hA0
  rw [Try.params5] at hA hval
  obtain ⟨v0, vs0, d0, ds0, p0, q0, hargs, rfl, rfl, h0, r0⟩ := trodAll_cons hA
  obtain ⟨v1, vs1, d1, ds1, p1, q1, rfl, rfl, rfl, h1, r1⟩ := trodAll_cons r0
  obtain ⟨rfl, rfl, rfl⟩ := trodAll_nil r1
  obtain rfl : args = #[v0, v1] := by cases args; simp_all
  obtain ⟨rfl, rfl⟩ := trodVars_none hV
  obtain ⟨a0, rfl, rfl, rfl, w0⟩ := open_string Try.underlying9 (hval 0 9 v0 rfl rfl) h0
  obtain ⟨a1, rfl, rfl, rfl, w1⟩ := open_string Try.underlying9 (hval 1 9 v1 rfl rfl) h1
  clear hA0 hval0
  simp only [List.append_nil] at hW'
  have z0 : a0.size ≤ 140737488355328 := by
    have hq : a0.data.toList.length ≤ reachBytes := sized_string hsz (j := 0) (t := 9) rfl rfl
    have e : a0.data.toList.length = a0.size := by rw [Array.length_toList]; rfl
    rw [e] at hq
    exact Nat.le_trans hq (Nat.le_of_lt reachBytes_lt)
  have z1 : a1.size ≤ 140737488355328 := by
    have hq : a1.data.toList.length ≤ reachBytes := sized_string hsz (j := 1) (t := 9) rfl rfl
    have e : a1.data.toList.length = a1.size := by rw [Array.length_toList]; rfl
    rw [e] at hq
    exact Nat.le_trans hq (Nat.le_of_lt reachBytes_lt)
  refine (walk W a0 a1 z0 z1).mono fun e W' ⟨he, bel⟩ => ?_
  subst he
  exact ⟨_, rfl, _, _, _, [], _, [], hW', (trodAll_cons_mk (shut_bool Try.underlying4 _) trodAll_mk0), (trodAll_cons_mk (shut_string Try.underlying9 w0) (trodAll_cons_mk (shut_string Try.underlying9 w1) trodAll_mk0)), rfl, bel.frame _, fun h => by cases h⟩

theorem over : Rows.sipSameRow.holds Try.pinned (OpenSpec.ofChange Rows.sipSameSpec) :=
  OpenClaim.holds_of_wide 5 Try.f5 rfl rfl rfl rfl rfl rfl rfl ⟨rfl, rfl, rfl, rfl, rfl⟩ rfl rfl rfl rfl rfl (by kernel_rfl) Try.func5 (by kernel_rfl)
    (of_decide_eq_true (by kernel_rfl)) (by unfold Func.isWrapper; first | (rw [if_pos (by decide +kernel)]; kernel_rfl) | (rw [if_neg (by decide +kernel)]; exact ⟨rfl, rfl⟩))
    (fun os started H enc _ => lifted os started H enc)

theorem proved : Rows.SipSameSaid := over
#print axioms proved
end Go.Proofs.Ytbiilgdgmedpkaa.sipSame
