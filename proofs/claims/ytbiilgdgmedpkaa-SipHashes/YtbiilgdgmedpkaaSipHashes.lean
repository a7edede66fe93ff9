/- The law SipHashes returns true for every key, own or made, every text and every two numbers of 64 bits, and changes nothing that was there before; no condition but the form's own. -/
import Derived.Test.YtbiilgdgmedpkaaRows
import Derived.OpenShut
import Derived.ShutString
import Derived.ChangeOld
import Derived.Below
import Derived.SizedLaws
import Derived.Test.YtbiilgdgmedpkaaSpRHash
import Derived.Test.YtbiilgdgmedpkaaSpEx
namespace Go.Proofs.Ytbiilgdgmedpkaa.sipHashes
open Go.ChangeShapes Go.WideShapes Go.ChangeAt Go.RowKit
open Go.ChangeMaps (open_string shut_string)
set_option linter.unusedVariables false
set_option maxHeartbeats 1000000 in
set_option maxRecDepth 100000 in
theorem walk (w : World) (a0 : ByteArray) (a1 : Bool) (a2 : ByteArray) (a3 : Int) (a4 : Int) (z0 : a0.size ≤ 140737488355328) (z2 : a2.size ≤ 140737488355328) (w3 : (Lit.int .u64 a3).wf = true) (w4 : (Lit.int .u64 a4).wf = true) :
    Calls Try.prog 3 #[.string a0, .bool a1, .string a2, .int .u64 a3, .int .u64 a4] w fun e w' => e = .returned (.bool true) ∧ Below w.heap.size w w' := by
  obtain ⟨x0, x1⟩ := bounds_u64 w3
  obtain ⟨y0, y1⟩ := bounds_u64 w4
  obtain ⟨k, rfl⟩ := Sp.nn_of a3 x0 (by omega)
  obtain ⟨b, rfl⟩ := Sp.nn_of a4 y0 (by omega)
  obtain ⟨m, hmin⟩ : ∃ m : Nat, min (a2.size : Int) 300 = m := ⟨min a2.size 300, by omega⟩
  have hm2 : m ≤ a2.size := by omega
  have hm3 : (m : Int) ≤ a2.size := by omega
  have hKs : (a2.extract 0 m).size ≤ 300 := by rw [ext_size _ _ _ hm2]; omega
  generalize hK : a2.extract 0 m = S at *
  have H1 := hide (fun K u => hash_any K S u (by unfold maxLen; omega))
  have H2 := hide (fun K u => rhash_any K S u (by omega))
  have H3 := hide (fun u => mix_any k b u)
  have H4 := hide (fun u => rmix_any k b u)
  clear x0 x1 y0 y1 w3 w4 hKs
  generalize Sp.mix k b = mx at *
  go_enter Try.func3, Try.ntmps3
  go_wp2_with fail
  refine (examples_any _).mono ?_
  rintro e w1' ⟨rfl, hb1⟩
  have HB := hide hb1
  clear hb1
  cases a1 with
  | true =>
    go_wp2_with fail
    obtain ⟨z, hz⟩ : ∃ z, Sp.hashV a0 S = z := ⟨_, rfl⟩
    obtain ⟨q, hq⟩ : ∃ q, (a0.size == 16) = q := ⟨_, rfl⟩
    have G1 := unhide H1 a0
    have G2 := unhide H2 a0
    rw [hz, hq] at G1 G2
    have G1 := hide G1
    have G2 := hide G2
    refine (unhide G1 _).mono ?_
    rintro e w2' ⟨rfl, hb1⟩
    have HB := hide (Below.then (unhide HB) hb1)
    clear hb1
    go_wp2_with fail
    refine (unhide G2 _).mono ?_
    rintro e w3' ⟨rfl, hb1⟩
    have HB := hide (Below.then (unhide HB) hb1)
    clear hb1
    go_wp2_with fail
    refine (unhide H3 _).mono ?_
    rintro e w4' ⟨rfl, rfl⟩
    go_wp2_with fail
    refine (unhide H4 _).mono ?_
    rintro e w5' ⟨rfl, rfl⟩
    go_wp2_with fail
    go_ret
    exact ⟨rfl, unhide HB⟩
  | false =>
    go_wp2_with fail
    refine (sixteen_any a0 _).mono ?_
    rintro e w1' ⟨a0, rfl, hsz, hb1⟩
    have HB := hide (Below.then (unhide HB) hb1)
    clear hb1
    go_wp2_with fail
    obtain ⟨z, hz⟩ : ∃ z, Sp.hashV a0 S = z := ⟨_, rfl⟩
    obtain ⟨q, hq⟩ : ∃ q, (a0.size == 16) = q := ⟨_, rfl⟩
    have G1 := unhide H1 a0
    have G2 := unhide H2 a0
    rw [hz, hq] at G1 G2
    have G1 := hide G1
    have G2 := hide G2
    clear hsz
    refine (unhide G1 _).mono ?_
    rintro e w2' ⟨rfl, hb1⟩
    have HB := hide (Below.then (unhide HB) hb1)
    clear hb1
    go_wp2_with fail
    refine (unhide G2 _).mono ?_
    rintro e w3' ⟨rfl, hb1⟩
    have HB := hide (Below.then (unhide HB) hb1)
    clear hb1
    go_wp2_with fail
    refine (unhide H3 _).mono ?_
    rintro e w4' ⟨rfl, rfl⟩
    go_wp2_with fail
    refine (unhide H4 _).mono ?_
    rintro e w5' ⟨rfl, rfl⟩
    go_wp2_with fail
    go_ret
    exact ⟨rfl, unhide HB⟩

theorem own : ownKnob Try.prog.godebug = none := by kernel_rfl
set_option maxRecDepth 100000 in
theorem lifted (os : Os) (started : os.Started) (H : Type) (enc : TypeId × Value → H) :
    ReturnsInHanded {} Try.checked os 3 .any (Rows.sipHashesSpec.pre6 enc Try.prog Try.f3 Rows.sipHashesRow.domain false) (Rows.sipHashesSpec.post enc Try.prog Try.f3 false true false false) := by
  refine returnsInHanded_of_change_sized (C := Try.checked) own started (by kernel_rfl) Try.func3
    (ChangeSpec.witness6 (enc := enc) (C := Try.checked) false ⟨#[], #[.string ByteArray.empty, .bool false, .string ByteArray.empty, .int .u64 0, .int .u64 0], []⟩ 8 (by kernel_rfl) (by kernel_rfl) (by kernel_rfl) (by kernel_rfl)) ?_
  intro W base args ds gs before hval0 hW hcnd hsz _
  have hval : ∀ (j : Nat) t v, Try.f3.params[j]? = some t → args[j]? = some v → Value.okWide Try.prog W .any base t v := hval0
  have hW' := hW
  obtain ⟨p, q, hA0, hV, rfl, hfz, hnd⟩ := hW
  have hA : DataW.TrodAll enc Try.prog W 0 (fun _ => true) true Try.f3.params.toList args.toList ds p := hA0
  rw [Try.params3] at hA hval
  obtain ⟨v0, vs0, d0, ds0, p0, q0, hargs, rfl, rfl, h0, r0⟩ := trodAll_cons hA
  obtain ⟨v1, vs1, d1, ds1, p1, q1, rfl, rfl, rfl, h1, r1⟩ := trodAll_cons r0
  obtain ⟨v2, vs2, d2, ds2, p2, q2, rfl, rfl, rfl, h2, r2⟩ := trodAll_cons r1
  obtain ⟨v3, vs3, d3, ds3, p3, q3, rfl, rfl, rfl, h3, r3⟩ := trodAll_cons r2
  obtain ⟨v4, vs4, d4, ds4, p4, q4, rfl, rfl, rfl, h4, r4⟩ := trodAll_cons r3
  obtain ⟨rfl, rfl, rfl⟩ := trodAll_nil r4
  obtain rfl : args = #[v0, v1, v2, v3, v4] := by cases args; simp_all
  obtain ⟨rfl, rfl⟩ := trodVars_none hV
  obtain ⟨a0, rfl, rfl, rfl, w0⟩ := open_string Try.underlying9 (hval 0 9 v0 rfl rfl) h0
  obtain ⟨a1, rfl, rfl, rfl⟩ := open_bool Try.underlying4 (hval 1 4 v1 rfl rfl) h1
  obtain ⟨a2, rfl, rfl, rfl, w2⟩ := open_string Try.underlying9 (hval 2 9 v2 rfl rfl) h2
  obtain ⟨a3, rfl, rfl, rfl, w3⟩ := open_int Try.underlying22 (hval 3 22 v3 rfl rfl) h3
  obtain ⟨a4, rfl, rfl, rfl, w4⟩ := open_int Try.underlying22 (hval 4 22 v4 rfl rfl) h4
  clear hA0 hval0
  simp only [List.append_nil] at hW'
  have z0 : a0.size ≤ 140737488355328 := by
    have hq : a0.data.toList.length ≤ reachBytes := sized_string hsz (j := 0) (t := 9) rfl rfl
    have e : a0.data.toList.length = a0.size := by rw [Array.length_toList]; rfl
    rw [e] at hq
    exact Nat.le_trans hq (Nat.le_of_lt reachBytes_lt)
  have z2 : a2.size ≤ 140737488355328 := by
    have hq : a2.data.toList.length ≤ reachBytes := sized_string hsz (j := 2) (t := 9) rfl rfl
    have e : a2.data.toList.length = a2.size := by rw [Array.length_toList]; rfl
    rw [e] at hq
    exact Nat.le_trans hq (Nat.le_of_lt reachBytes_lt)
  refine (walk W a0 a1 a2 a3 a4 z0 z2 w3 w4).mono fun e W' ⟨he, bel⟩ => ?_
  subst he
  exact ⟨_, rfl, _, _, _, [], _, [], hW', (trodAll_cons_mk (shut_bool Try.underlying4 _) trodAll_mk0), (trodAll_cons_mk (shut_string Try.underlying9 w0) (trodAll_cons_mk (shut_bool Try.underlying4 _) (trodAll_cons_mk (shut_string Try.underlying9 w2) (trodAll_cons_mk (shut_int Try.underlying22 w3) (trodAll_cons_mk (shut_int Try.underlying22 w4) trodAll_mk0))))), rfl, bel.frame _, fun h => by cases h⟩

theorem over : Rows.sipHashesRow.holds Try.pinned (OpenSpec.ofChange Rows.sipHashesSpec) :=
  OpenClaim.holds_of_wide 3 Try.f3 rfl rfl rfl rfl rfl rfl rfl ⟨rfl, rfl, rfl, rfl, rfl⟩ rfl rfl rfl rfl rfl (by kernel_rfl) Try.func3 (by kernel_rfl)
    (of_decide_eq_true (by kernel_rfl)) (by unfold Func.isWrapper; first | (rw [if_pos (by decide +kernel)]; kernel_rfl) | (rw [if_neg (by decide +kernel)]; exact ⟨rfl, rfl⟩))
    (fun os started H enc _ => lifted os started H enc)

theorem proved : Rows.SipHashesSaid := over
#print axioms proved
end Go.Proofs.Ytbiilgdgmedpkaa.sipHashes
