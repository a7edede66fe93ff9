/- The law CursorTurns returns true for every number of numbers and however many are taken first, and changes nothing that was there before; no condition but the form's own. -/
import Derived.Test.YtbncjinkojeioaaRows
import Derived.OpenShut
import Derived.ShutString
import Derived.ChangeOld
import Derived.Below
import Derived.SizedLaws
import Derived.Test.YtbncjinkojeioaaCuMov
namespace Go.Proofs.Ytbncjinkojeioaa.cursorTurns
open Go.ChangeShapes Go.WideShapes Go.ChangeAt Go.RowKit
open Go.ChangeMaps (open_string shut_string)
set_option linter.unusedVariables false
open Sp Cu
set_option maxHeartbeats 4000000 in
set_option maxRecDepth 100000 in
theorem walk (w : World) (a0 : Int) (a1 : Int) (w0 : (Lit.int .u8 a0).wf = true) (w1 : (Lit.int .u8 a1).wf = true) :
    Calls Try.prog 5 #[.int .u8 a0, .int .u8 a1] w fun e w' => e = .returned (.bool true) ∧ Below w.heap.size w w' := by
  obtain ⟨x0, x1⟩ := bounds_u8 w0
  obtain ⟨y0, y1⟩ := bounds_u8 w1
  obtain ⟨m, hm⟩ : ∃ m : Nat, a0 % 198 = m := ⟨(a0 % 198).toNat, by omega⟩
  obtain ⟨n, hn⟩ : ∃ n : Nat, 3 + (m : Int) = n := ⟨3 + m, by omega⟩
  have hm1 : (m : Int) ≤ 197 := by omega
  have hn2 : (n : Int) ≤ 200 := by omega
  obtain ⟨k', hk', hkn⟩ : ∃ k' : Nat, a1 % ((n : Int) - 1) = k' ∧ k' + 1 < n := ⟨(a1 % ((n : Int) - 1)).toNat, by have := Int.emod_nonneg a1 (show (n : Int) - 1 ≠ 0 by omega); omega, by have := Int.emod_lt_of_pos a1 (show (0 : Int) < (n : Int) - 1 by omega); have := Int.emod_nonneg a1 (show (n : Int) - 1 ≠ 0 by omega); omega⟩
  obtain ⟨k, hk⟩ : ∃ k : Nat, 1 + (k' : Int) = k := ⟨1 + k', by omega⟩
  have hk2 : (k' : Int) ≤ 200 := by omega
  have hn0 : ¬ (n : Int) - 1 = 0 := by omega
  have hn00 : ((n : Int) - 1 == 0) = false := beq_eq_false_iff_ne.2 hn0
  have hnew := fun u (hb : Below w.heap.size w u) => new_cur n (by omega) (by omega) w u hb
  have HN : Shut (1 ≤ k ∧ k < n ∧ n ≤ 300) := ⟨by omega, by omega, by omega⟩
  clear hkn
  go_enter Try.func5, Try.ntmps5
  go_wp2_with fail
  refine (examples_any _).mono ?_
  rintro e w1' ⟨rfl, hb1⟩
  have HB := hide hb1
  clear hb1
  go_wp2_with fail
  refine (hnew _ (unhide HB)).mono ?_
  rintro e w2 ⟨p, rfl, h2⟩
  have H2 : Shut (Cur w w2 p (fil n 0)) := ⟨by rw [← fil_zero]; exact h2⟩
  clear h2 hnew HB
  go_wp2_with fail
  clear hk hk' hn hm
  go_loopw [10] (fun t W => ∃ i : Nat, i ≤ k ∧ t = .int .i64 (i : Int) ∧ Shut (Cur w W p (fil n i))) (fun t _ => k - (intOf t).toNat)
  case atStart => exact ⟨0, Nat.zero_le _, rfl, H2⟩
  case round =>
    obtain ⟨i, hi, rfl, H3⟩ := hrel
    have hi2 : (i : Int) ≤ 300 := by have := HN.out; omega
    by_cases hlt : i < k
    · have hlt1 : (i : Int) < k := by omega
      have HL : Shut (i < k) := ⟨hlt⟩
      clear hi hlt
      go_wp2_with fail
      refine (H3.out.take (fil_put (by have := HL.out; have := HN.out; omega))).mono ?_
      rintro e w3 ⟨rfl, h4⟩
      have H4 : Shut _ := ⟨h4⟩
      clear h4 H3
      go_wp2_with fail
      go_roundw
      case rel => exact ⟨i + 1, HL.out, by go_num, H4⟩
      case measure => have := HL.out; simp only [intOf]; omega
    · have hlt1 : ¬ (i : Int) < k := by omega
      obtain rfl : i = k := by omega
      clear hi hlt
      go_wp2_with fail
      refine (H3.out.free 0 true (fil_has (j := 0) (by have := HN.out; omega) (by have := HN.out; omega))).mono ?_
      rintro e w3 ⟨rfl, h4⟩
      rw [gap_free (by have := HN.out; omega) (by have := HN.out; omega)] at h4
      have H4 : Shut _ := ⟨h4⟩
      clear h4 H3
      go_wp2_with fail
      go_loopw [11] (fun t W => ∃ j : Nat, Shut (i ≤ j ∧ j ≤ n) ∧ t = .int .i64 (j : Int) ∧ Shut (Cur w W p (gap n j))) (fun t _ => n - (intOf t).toNat)
      case atStart => exact ⟨i, ⟨Nat.le_refl _, by have := HN.out; omega⟩, rfl, H4⟩
      case round =>
        obtain ⟨j, HJ, rfl, H5⟩ := hrel
        have hj2 : (j : Int) ≤ 300 := by have := HN.out; have := HJ.out; omega
        by_cases hlt : j < n
        · have hlt2 : (j : Int) < n := by omega
          have HL : Shut (j < n) := ⟨hlt⟩
          clear hlt
          go_wp2_with fail
          refine (H5.out.take (gap_put (by have := HJ.out; have := HN.out; omega) HL.out)).mono ?_
          rintro e w4 ⟨rfl, h6⟩
          have H6 : Shut _ := ⟨h6⟩
          clear h6 H5
          go_wp2_with fail
          go_roundw
          case rel => exact ⟨j + 1, ⟨by have := HJ.out; omega, HL.out⟩, by go_num, H6⟩
          case measure => have := HL.out; simp only [intOf]; omega
        · have hlt2 : ¬ (j : Int) < n := by omega
          obtain rfl : j = n := by have := HJ.out; omega
          clear hlt
          go_wp2_with fail
          refine (H5.out.take (gap_last (by have := HN.out; omega))).mono ?_
          rintro e w4 ⟨rfl, h6⟩
          have H6 : Shut _ := ⟨h6⟩
          clear h6 H5
          go_wp2_with fail
          refine (H6.out.len j gone_many).mono ?_
          rintro e w5 ⟨rfl, rfl⟩
          go_wp2_with fail
          go_ret
          exact ⟨rfl, H6.out.below⟩

theorem own : ownKnob Try.prog.godebug = none := by kernel_rfl
set_option maxRecDepth 100000 in
theorem lifted (os : Os) (started : os.Started) (H : Type) (enc : TypeId × Value → H) :
    ReturnsInHanded {} Try.checked os 5 .any (Rows.cursorTurnsSpec.pre6 enc Try.prog Try.f5 Rows.cursorTurnsRow.domain false) (Rows.cursorTurnsSpec.post enc Try.prog Try.f5 false true false false) := by
  refine returnsInHanded_of_change_sized (C := Try.checked) own started (by kernel_rfl) Try.func5
    (ChangeSpec.witness6 (enc := enc) (C := Try.checked) false ⟨#[], #[.int .u8 0, .int .u8 0], []⟩ 8 (by kernel_rfl) (by kernel_rfl) (by kernel_rfl) (by kernel_rfl)) ?_
  intro W base args ds gs before hval0 hW hcnd hsz _
  have hval : ∀ (j : Nat) t v, Try.f5.params[j]? = some t → args[j]? = some v → Value.okWide Try.prog W .any base t v := hval0
  have hW' := hW
  obtain ⟨p, q, hA0, hV, rfl, hfz, hnd⟩ := hW
  have hA : DataW.TrodAll enc Try.prog W 0 (fun _ => true) true Try.f5.params.toList args.toList ds p := hA0
  rw [Try.params5] at hA hval
  obtain ⟨v0, vs0, d0, ds0, p0, q0, hargs, rfl, rfl, h0, r0⟩ := trodAll_cons hA
  obtain ⟨v1, vs1, d1, ds1, p1, q1, rfl, rfl, rfl, h1, r1⟩ := trodAll_cons r0
  obtain ⟨rfl, rfl, rfl⟩ := trodAll_nil r1
  obtain rfl : args = #[v0, v1] := by cases args; simp_all
  obtain ⟨rfl, rfl⟩ := trodVars_none hV
  obtain ⟨a0, rfl, rfl, rfl, w0⟩ := open_int Try.underlying5 (hval 0 5 v0 rfl rfl) h0
  obtain ⟨a1, rfl, rfl, rfl, w1⟩ := open_int Try.underlying5 (hval 1 5 v1 rfl rfl) h1
  clear hA0 hval0
  simp only [List.append_nil] at hW'
  refine (walk W a0 a1 w0 w1).mono fun e W' ⟨he, bel⟩ => ?_
  subst he
  exact ⟨_, rfl, _, _, _, [], _, [], hW', (trodAll_cons_mk (shut_bool Try.underlying4 _) trodAll_mk0), (trodAll_cons_mk (shut_int Try.underlying5 w0) (trodAll_cons_mk (shut_int Try.underlying5 w1) trodAll_mk0)), rfl, bel.frame _, fun h => by cases h⟩

theorem over : Rows.cursorTurnsRow.holds Try.pinned (OpenSpec.ofChange Rows.cursorTurnsSpec) :=
  OpenClaim.holds_of_wide 5 Try.f5 rfl rfl rfl rfl rfl rfl rfl ⟨rfl, rfl, rfl, rfl, rfl⟩ rfl rfl rfl rfl rfl (by kernel_rfl) Try.func5 (by kernel_rfl)
    (of_decide_eq_true (by kernel_rfl)) (by unfold Func.isWrapper; first | (rw [if_pos (by decide +kernel)]; kernel_rfl) | (rw [if_neg (by decide +kernel)]; exact ⟨rfl, rfl⟩))
    (fun os started H enc _ => lifted os started H enc)

theorem proved : Rows.CursorTurnsSaid := over
#print axioms proved
end Go.Proofs.Ytbncjinkojeioaa.cursorTurns
