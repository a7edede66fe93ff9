/- The law SipKeys returns true for every two halves and every text, and changes nothing that was there before; no condition but the form's own. -/
import Derived.Test.YtbiilgdgmedpkaaRows
import Derived.OpenShut
import Derived.ShutString
import Derived.ChangeOld
import Derived.Below
import Derived.SizedLaws
import Derived.Test.YtbiilgdgmedpkaaSpEx
namespace Go.Proofs.Ytbiilgdgmedpkaa.sipKeys
open Go.ChangeShapes Go.WideShapes Go.ChangeAt Go.RowKit
open Go.ChangeMaps (open_string shut_string)
set_option linter.unusedVariables false
set_option maxHeartbeats 1000000 in
set_option maxRecDepth 100000 in
theorem walk (w : World) (a0 : ByteArray) (a1 : ByteArray) (a2 : ByteArray) (z0 : a0.size ≤ 140737488355328) (z1 : a1.size ≤ 140737488355328) (z2 : a2.size ≤ 140737488355328) :
    Calls Try.prog 7 #[.string a0, .string a1, .string a2] w fun e w' => e = .returned (.bool true) ∧ Below w.heap.size w w' := by
  obtain ⟨m, hmin⟩ : ∃ m : Nat, min (a2.size : Int) 40 = m := ⟨min a2.size 40, by omega⟩
  have hm2 : m ≤ a2.size := by omega
  have hm3 : (m : Int) ≤ a2.size := by omega
  have hKs : (a2.extract 0 m).size ≤ 40 := by rw [ext_size _ _ _ hm2]; omega
  generalize hK : a2.extract 0 m = S at *
  have H1 := hide (fun K u => hash_any K S u (by unfold maxLen; omega))
  clear hKs
  go_enter Try.func7, Try.ntmps7
  go_wp2_with fail
  refine (examples_any _).mono ?_
  rintro e w1' ⟨rfl, hb1⟩
  have HB := hide hb1
  clear hb1
  go_wp2_with fail
  refine (sixteen_any a0 _).mono ?_
  rintro e w2' ⟨KA, rfl, hsA, hb1⟩
  have HB := hide (Below.then (unhide HB) hb1)
  clear hb1
  have hA8 : (8 : Int) ≤ KA.size := by omega
  have hX := ext_size KA 0 8 (by omega)
  generalize hx : KA.extract 0 8 = X at *
  go_wp2_with fail
  refine (sixteen_any a1 _).mono ?_
  rintro e w3' ⟨KB, rfl, hsB, hb1⟩
  have HB := hide (Below.then (unhide HB) hb1)
  clear hb1
  have hB8 : (8 : Int) ≤ KB.size := by omega
  have hY := ext_size KB 0 8 (by omega)
  generalize hy : KB.extract 0 8 = Y at *
  have hS1 : (X ++ Y).size = 16 := by rw [ByteArray.size_append]; omega
  have hS2 : (Y ++ X).size = 16 := by rw [ByteArray.size_append]; omega
  have ha1 := fun (wx : World) => run_string_add_sum (P := Try.prog) (w := wx) X Y (by omega)
  have ha2 := fun (wx : World) => run_string_add_sum (P := Try.prog) (w := wx) Y X (by omega)
  obtain ⟨x, hx'⟩ : ∃ x, Sp.hashV (X ++ Y) S = x := ⟨_, rfl⟩
  obtain ⟨y, hy'⟩ : ∃ y, Sp.hashV (Y ++ X) S = y := ⟨_, rfl⟩
  have G1 := unhide H1 (X ++ Y)
  have G2 := unhide H1 (Y ++ X)
  rw [hx', hS1] at G1
  rw [hy', hS2] at G2
  have HE : Hid (X = Y → x = y) := fun h => by rw [← hx', ← hy', h]
  have G1 := hide G1
  have G2 := hide G2
  have HTX : Hid (∀ (K : ByteArray) W g c, Bts W g K.data.toList → (convert 31 9 (.slice (some ⟨g, 0, none⟩) K.size c)).run Try.prog W = .ok (.string K) W) := fun K W g c h => text_of h (Sp.len_eq K) c
  clear hS1 hS2 hx' hy' hX hY hsA hsB H1
  go_wp2_with fail
  refine (unhide G1 _).mono ?_
  rintro e w4' ⟨rfl, hb1⟩
  have HB := hide (Below.then (unhide HB) hb1)
  clear hb1
  obtain ⟨c1, W1, _, hc1, hb1, ht1⟩ := conv_bytes X w4'
  have hd1 := unhide HTX X W1 _ c1 ht1
  have HB := hide (Below.then (unhide HB) hb1)
  clear hb1 ht1
  obtain ⟨c2, W2, _, hc2, hb2, ht2⟩ := conv_bytes Y W1
  have hd2 := unhide HTX Y W2 _ c2 ht2
  have HB := hide (Below.then (unhide HB) hb2)
  clear hb2 ht2
  go_wp2_with fail
  refine (unhide G1 _).mono ?_
  rintro e w5' ⟨rfl, hb1⟩
  have HB := hide (Below.then (unhide HB) hb1)
  clear hb1 hc1 hd1 hc2 hd2
  go_wp2_with fail
  refine (unhide G2 _).mono ?_
  rintro e w6' ⟨rfl, hb1⟩
  have HB := hide (Below.then (unhide HB) hb1)
  clear hb1
  by_cases hxy : X = Y
  · have hxy2 := unhide HE hxy
    have hl : (X.toList == Y.toList) = true := by rw [hxy]; exact beq_self_eq_true _
    clear hxy HE
    rw [hxy2] at *
    go_wp2_with fail
    go_ret
    exact ⟨rfl, unhide HB⟩
  · have hl : (X.toList == Y.toList) = false := Bool.eq_false_iff.2 fun hb => hxy (by
      have := eq_of_beq hb
      rw [ByteArray.toList_eq, ByteArray.toList_eq] at this
      cases X with | mk x => cases Y with | mk y => congr 1; exact Array.toList_inj.1 this)
    clear hxy HE
    go_wp2_with fail
    go_ret
    exact ⟨rfl, unhide HB⟩

theorem own : ownKnob Try.prog.godebug = none := by kernel_rfl
set_option maxRecDepth 100000 in
theorem lifted (os : Os) (started : os.Started) (H : Type) (enc : TypeId × Value → H) :
    ReturnsInHanded {} Try.checked os 7 .any (Rows.sipKeysSpec.pre6 enc Try.prog Try.f7 Rows.sipKeysRow.domain false) (Rows.sipKeysSpec.post enc Try.prog Try.f7 false true false false) := by
  refine returnsInHanded_of_change_sized (C := Try.checked) own started (by kernel_rfl) Try.func7
    (ChangeSpec.witness6 (enc := enc) (C := Try.checked) false ⟨#[], #[.string ByteArray.empty, .string ByteArray.empty, .string ByteArray.empty], []⟩ 8 (by kernel_rfl) (by kernel_rfl) (by kernel_rfl) (by kernel_rfl)) ?_
  intro W base args ds gs before hval0 hW hcnd hsz _
  have hval : ∀ (j : Nat) t v, Try.f7.params[j]? = some t → args[j]? = some v → Value.okWide Try.prog W .any base t v := hval0
  have hW' := hW
  obtain ⟨p, q, hA0, hV, rfl, hfz, hnd⟩ := hW
  have hA : DataW.TrodAll enc Try.prog W 0 (fun _ => true) true Try.f7.params.toList args.toList ds p := hA0
  rw [Try.params7] at hA hval
  obtain ⟨v0, vs0, d0, ds0, p0, q0, hargs, rfl, rfl, h0, r0⟩ := trodAll_cons hA
  obtain ⟨v1, vs1, d1, ds1, p1, q1, rfl, rfl, rfl, h1, r1⟩ := trodAll_cons r0
  obtain ⟨v2, vs2, d2, ds2, p2, q2, rfl, rfl, rfl, h2, r2⟩ := trodAll_cons r1
  obtain ⟨rfl, rfl, rfl⟩ := trodAll_nil r2
  obtain rfl : args = #[v0, v1, v2] := by cases args; simp_all
  obtain ⟨rfl, rfl⟩ := trodVars_none hV
  obtain ⟨a0, rfl, rfl, rfl, w0⟩ := open_string Try.underlying9 (hval 0 9 v0 rfl rfl) h0
  obtain ⟨a1, rfl, rfl, rfl, w1⟩ := open_string Try.underlying9 (hval 1 9 v1 rfl rfl) h1
  obtain ⟨a2, rfl, rfl, rfl, w2⟩ := open_string Try.underlying9 (hval 2 9 v2 rfl rfl) h2
  clear hA0 hval0
  simp only [List.append_nil] at hW'
  have z0 : a0.size ≤ 140737488355328 := by
    have hq : a0.data.toList.length ≤ reachBytes := sized_string hsz (j := 0) (t := 9) rfl rfl
    have e : a0.data.toList.length = a0.size := by rw [Array.length_toList]; rfl
    rw [e] at hq
    exact Nat.le_trans hq (Nat.le_of_lt reachBytes_lt)
  have z1 : a1.size ≤ 140737488355328 := by
    have hq : a1.data.toList.length ≤ reachBytes := sized_string hsz (j := 1) (t := 9) rfl rfl
    have e : a1.data.toList.length = a1.size := by rw [Array.length_toList]; rfl
    rw [e] at hq
    exact Nat.le_trans hq (Nat.le_of_lt reachBytes_lt)
  have z2 : a2.size ≤ 140737488355328 := by
    have hq : a2.data.toList.length ≤ reachBytes := sized_string hsz (j := 2) (t := 9) rfl rfl
    have e : a2.data.toList.length = a2.size := by rw [Array.length_toList]; rfl
    rw [e] at hq
    exact Nat.le_trans hq (Nat.le_of_lt reachBytes_lt)
  refine (walk W a0 a1 a2 z0 z1 z2).mono fun e W' ⟨he, bel⟩ => ?_
  subst he
  exact ⟨_, rfl, _, _, _, [], _, [], hW', (trodAll_cons_mk (shut_bool Try.underlying4 _) trodAll_mk0), (trodAll_cons_mk (shut_string Try.underlying9 w0) (trodAll_cons_mk (shut_string Try.underlying9 w1) (trodAll_cons_mk (shut_string Try.underlying9 w2) trodAll_mk0))), rfl, bel.frame _, fun h => by cases h⟩

theorem over : Rows.sipKeysRow.holds Try.pinned (OpenSpec.ofChange Rows.sipKeysSpec) :=
  OpenClaim.holds_of_wide 7 Try.f7 rfl rfl rfl rfl rfl rfl rfl ⟨rfl, rfl, rfl, rfl, rfl⟩ rfl rfl rfl rfl rfl (by kernel_rfl) Try.func7 (by kernel_rfl)
    (of_decide_eq_true (by kernel_rfl)) (by unfold Func.isWrapper; first | (rw [if_pos (by decide +kernel)]; kernel_rfl) | (rw [if_neg (by decide +kernel)]; exact ⟨rfl, rfl⟩))
    (fun os started H enc _ => lifted os started H enc)

theorem proved : Rows.SipKeysSaid := over
#print axioms proved
end Go.Proofs.Ytbiilgdgmedpkaa.sipKeys
