/- CksumWords answers true for every text that may be in memory and every word, and changes nothing that was there before. -/
import Derived.Test.YthhhedpnofommaaRows
import Derived.OpenShut
import Derived.ShutString
import Derived.ChangeOld
import Derived.Below
import Derived.SizedLaws
import Derived.Test.YthhhedpnofommaaCkEx
import Derived.Test.YthhhedpnofommaaCkText
namespace Go.Proofs.Ythhhedpnofommaa.cksumWords
open Go.ChangeShapes Go.WideShapes Go.ChangeAt Go.RowKit
open Go.ChangeMaps (open_string shut_string)
set_option linter.unusedVariables false
set_option maxHeartbeats 3000000 in
set_option maxRecDepth 100000 in
theorem walk (w : World) (a0 : ByteArray) (a1 : Int) (z0 : a0.size ≤ 140737488355328) (w1 : (Lit.int .u16 a1).wf = true) :
    Calls Try.prog 9 #[.string a0, .int .u16 a1] w fun e w' => e = .returned (.bool true) ∧ Below w.heap.size w w' := by
  obtain ⟨b0, b1⟩ := u16_bounds w1
  obtain ⟨E, hE⟩ : ∃ E, a0.extract 0 (a0.size / 2 * 2) = E := ⟨_, rfl⟩
  have e0 : E.size = a0.size / 2 * 2 := by rw [← hE, Oct.ext_size _ _ _ (by omega)]; omega
  have e1 : E.size % 2 = 0 := by omega
  have S1 : Hid (Ck.sum (E ++ strOfNums [a1 / 256, a1 % 256]).data.toList = Ck.fold (Ck.sum E.data.toList + a1)) := by
    show _ = _
    rw [sum_behind _ _ e1, two_sum _ b0 b1]
  have S2 : Hid (Ck.sum (E ++ ⟨#[0, 0]⟩).data.toList = Ck.sum E.data.toList) := sum_zeros E e1
  have l1 : E.size + (strOfNums [a1 / 256, a1 % 256]).size ≤ 9223372036854775807 := by rw [two_size]; omega
  have l2 : E.size + (ByteArray.mk #[0, 0]).size ≤ 9223372036854775807 := by show _ + 2 ≤ _; omega
  have ha1 := fun wx => run_string_add_sum (P := Try.prog) (w := wx) _ _ l1
  have ha2 := fun wx => run_string_add_sum (P := Try.prog) (w := wx) _ _ l2
  have n1 : (E ++ strOfNums [a1 / 256, a1 % 256]).size ≤ 281474976710656 := by rw [ByteArray.size_append, two_size]; omega
  have n2 : (E ++ ⟨#[0, 0]⟩).size ≤ 281474976710656 := by rw [ByteArray.size_append]; show _ + 2 ≤ _; omega
  have hcv := fun W a b => conv_two W a b
  have f0 := Ck.sum_lo E.data.toList
  have f1 := Ck.sum_hi E.data.toList
  have N1 := hide n1
  have N2 := hide n2
  clear l1 l2 n1 n2
  go_enter Try.func9, Try.ntmps9
  go_wp2_with fail
  refine (examples_ok _).mono ?_
  rintro e w1 ⟨rfl, hb1⟩
  have HB := hide hb1
  clear hb1
  go_wp2_with fail
  rw [hE]
  refine (sum_any _ _ (unhide N1)).mono ?_
  rintro e w2 ⟨rfl, hb2⟩
  rw [S1.out]
  have HB2 := hide (Below.then (Below.then (unhide HB) ((Below.refl _ _).alloc (Nat.le_refl _) _)) hb2)
  clear hb2 HB
  go_wp2_with fail
  refine (sum_any _ _ (by omega)).mono ?_
  rintro e w3 ⟨rfl, hb3⟩
  have HB3 := hide (Below.then (unhide HB2) hb3)
  clear hb3 HB2
  go_wp2_with fail
  refine (join2b _ _ _ _ f0 f1 b0 b1).mono ?_
  rintro e w4 ⟨rfl, hb4⟩
  have HB4 := hide (Below.then (unhide HB3) hb4)
  clear hb4 HB3
  go_wp2_with fail
  refine (sum_any _ _ (unhide N2)).mono ?_
  rintro e w5 ⟨rfl, hb5⟩
  rw [S2.out]
  have HB5 := hide (Below.then (unhide HB4) hb5)
  clear hb5 HB4
  go_wp2_with fail
  refine (sum_any _ _ (by omega)).mono ?_
  rintro e w6 ⟨rfl, hb6⟩
  have HB6 := hide (Below.then (unhide HB5) hb6)
  clear hb6 HB5
  go_wp2_with fail
  refine (check_any _ _ (unhide N1)).mono ?_
  rintro e w7 ⟨rfl, hb7⟩
  rw [S1.out]
  have HB7 := hide (Below.then (unhide HB6) hb7)
  clear hb7 HB6
  go_wp2_with fail
  refine (sum_any _ _ (unhide N1)).mono ?_
  rintro e w8 ⟨rfl, hb8⟩
  rw [S1.out]
  have HB8 := hide (Below.then (unhide HB7) hb8)
  clear hb8 HB7
  have g0 := Ck.fold_lo (Ck.sum E.data.toList + a1)
  have g1 := Ck.fold_hi (Ck.sum E.data.toList + a1)
  go_wp2_with fail
  go_ret
  exact ⟨rfl, unhide HB8⟩

theorem own : ownKnob Try.prog.godebug = none := by kernel_rfl
set_option maxRecDepth 100000 in
theorem lifted (os : Os) (started : os.Started) (H : Type) (enc : TypeId × Value → H) :
    ReturnsInHanded {} Try.checked os 9 .any (Rows.cksumWordsSpec.pre6 enc Try.prog Try.f9 Rows.cksumWordsRow.domain false) (Rows.cksumWordsSpec.post enc Try.prog Try.f9 false true false false) := by
  refine returnsInHanded_of_change_sized (C := Try.checked) own started (by kernel_rfl) Try.func9
    (ChangeSpec.witness6 (enc := enc) (C := Try.checked) false ⟨#[], #[.string ByteArray.empty, .int .u16 0], []⟩ 8 (by kernel_rfl) (by kernel_rfl) (by kernel_rfl) (by kernel_rfl)) ?_
  intro W base args ds gs before hval0 hW hcnd hsz _
  have hval : ∀ (j : Nat) t v, Try.f9.params[j]? = some t → args[j]? = some v → Value.okWide Try.prog W .any base t v := hval0
  have hW' := hW
  obtain ⟨p, q, hA0, hV, rfl, hfz, hnd⟩ := hW
  have hA : DataW.TrodAll enc Try.prog W 0 (fun _ => true) true Try.f9.params.toList args.toList ds p := hA0
  rw [Try.params9] at hA hval
  obtain ⟨v0, vs0, d0, ds0, p0, q0, hargs, rfl, rfl, h0, r0⟩ := trodAll_cons hA
  obtain ⟨v1, vs1, d1, ds1, p1, q1, rfl, rfl, rfl, h1, r1⟩ := trodAll_cons r0
  obtain ⟨rfl, rfl, rfl⟩ := trodAll_nil r1
  obtain rfl : args = #[v0, v1] := by cases args; simp_all
  obtain ⟨rfl, rfl⟩ := trodVars_none hV
  obtain ⟨a0, rfl, rfl, rfl, w0⟩ := open_string Try.underlying9 (hval 0 9 v0 rfl rfl) h0
  obtain ⟨a1, rfl, rfl, rfl, w1⟩ := open_int Try.underlying25 (hval 1 25 v1 rfl rfl) h1
  clear hA0 hval0
  simp only [List.append_nil] at hW'
  have z0 : a0.size ≤ 140737488355328 := by
    have hq : a0.data.toList.length ≤ reachBytes := sized_string hsz (j := 0) (t := 9) rfl rfl
    have e : a0.data.toList.length = a0.size := by rw [Array.length_toList]; rfl
    rw [e] at hq
    exact Nat.le_trans hq (Nat.le_of_lt reachBytes_lt)
  refine (walk W a0 a1 z0 w1).mono fun e W' ⟨he, bel⟩ => ?_
  subst he
  exact ⟨_, rfl, _, _, _, [], _, [], hW', (trodAll_cons_mk (shut_bool Try.underlying4 _) trodAll_mk0), (trodAll_cons_mk (shut_string Try.underlying9 w0) (trodAll_cons_mk (shut_int Try.underlying25 w1) trodAll_mk0)), rfl, bel.frame _, fun h => by cases h⟩

theorem over : Rows.cksumWordsRow.holds Try.pinned (OpenSpec.ofChange Rows.cksumWordsSpec) :=
  OpenClaim.holds_of_wide 9 Try.f9 rfl rfl rfl rfl rfl rfl rfl ⟨rfl, rfl, rfl, rfl, rfl⟩ rfl rfl rfl rfl rfl (by kernel_rfl) Try.func9 (by kernel_rfl)
    (of_decide_eq_true (by kernel_rfl)) (by unfold Func.isWrapper; first | (rw [if_pos (by decide +kernel)]; kernel_rfl) | (rw [if_neg (by decide +kernel)]; exact ⟨rfl, rfl⟩))
    (fun os started H enc _ => lifted os started H enc)

theorem proved : Rows.CksumWordsSaid := over
#print axioms proved
end Go.Proofs.Ythhhedpnofommaa.cksumWords
