/- The law CursorRounds returns true for every number of numbers and every one that is freed, and changes nothing that was there before; no condition but the form's own. -/
import Derived.Test.YtbncjinkojeioaaRows
import Derived.OpenShut
import Derived.ShutString
import Derived.ChangeOld
import Derived.Below
import Derived.SizedLaws
import Derived.Test.YtbncjinkojeioaaCuMov
namespace Go.Proofs.Ytbncjinkojeioaa.cursorRounds
open Go.ChangeShapes Go.WideShapes Go.ChangeAt Go.RowKit
open Go.ChangeMaps (open_string shut_string)
set_option linter.unusedVariables false
open Sp Cu
set_option maxHeartbeats 4000000 in
set_option maxRecDepth 100000 in
theorem walk (w : World) (a0 : Int) (a1 : Int) (w0 : (Lit.int .u16 a0).wf = true) (w1 : (Lit.int .u16 a1).wf = true) :
    Calls Try.prog 4 #[.int .u16 a0, .int .u16 a1] w fun e w' => e = .returned (.bool true) ∧ Below w.heap.size w w' := by
  obtain ⟨x0, x1⟩ := bounds_u16 w0
  obtain ⟨y0, y1⟩ := bounds_u16 w1
  obtain ⟨n, hn⟩ : ∃ n : Nat, 1 + a0 % 300 = n := ⟨(1 + a0 % 300).toNat, by omega⟩
  have hn1 : 1 ≤ n := by omega
  have hn2 : (n : Int) ≤ 300 := by omega
  obtain ⟨k, hk, hkn⟩ : ∃ k : Nat, a1 % (n : Int) = k ∧ k < n := ⟨(a1 % (n : Int)).toNat, by have := Int.emod_nonneg a1 (show (n : Int) ≠ 0 by omega); omega, by have := Int.emod_lt_of_pos a1 (show (0 : Int) < n by omega); have := Int.emod_nonneg a1 (show (n : Int) ≠ 0 by omega); omega⟩
  have hn0 : ¬ (n : Int) = 0 := by omega
  have hn00 : ((n : Int) == 0) = false := beq_eq_false_iff_ne.2 hn0
  have hnew := fun u (hb : Below w.heap.size w u) => new_cur n hn1 (by omega) w u hb
  have HN : Shut (1 ≤ n ∧ n ≤ 300 ∧ k < n) := ⟨hn1, by omega, hkn⟩
  clear hn1 hkn
  go_enter Try.func4, Try.ntmps4
  go_wp2_with fail
  refine (examples_any _).mono ?_
  rintro e w1' ⟨rfl, hb1⟩
  have HB := hide hb1
  clear hb1
  go_wp2_with fail
  refine (hnew _ (unhide HB)).mono ?_
  rintro e w2 ⟨p, rfl, h2⟩
  have H2 : Shut (Cur w w2 p (fil n 0)) := ⟨by rw [← fil_zero]; exact h2⟩
  clear h2 hnew HB
  go_wp2_with fail
  go_loopw [9] (fun t W => ∃ i : Nat, i ≤ n ∧ t = .int .i64 (i : Int) ∧ Shut (Cur w W p (fil n i))) (fun t _ => n - (intOf t).toNat)
  case atStart => exact ⟨0, Nat.zero_le _, rfl, H2⟩
  case round =>
    obtain ⟨i, hi, rfl, H3⟩ := hrel
    by_cases hlt : i < n
    · have hlt1 : (i : Int) < n := by omega
      have HL : Shut (i < n) := ⟨hlt⟩
      clear hi hlt
      go_wp2_with fail
      refine (H3.out.take (fil_put HL.out)).mono ?_
      rintro e w3 ⟨rfl, h4⟩
      have H4 : Shut _ := ⟨h4⟩
      clear h4 H3
      go_wp2_with fail
      refine (H4.out.used (i : Int) true (fil_has (by omega) HL.out)).mono ?_
      rintro e w4 ⟨rfl, rfl⟩
      go_wp2_with fail
      refine (H4.out.len (i + 1) (fil_many HL.out)).mono ?_
      rintro e w4 ⟨rfl, rfl⟩
      go_wp2_with fail
      go_roundw
      case rel => exact ⟨i + 1, HL.out, by go_num, H4⟩
      case measure => have := HL.out; simp only [intOf]; omega
    · have hlt1 : ¬ (i : Int) < n := by omega
      obtain rfl : i = n := by omega
      clear hi hlt
      go_wp2_with fail
      refine (H3.out.take (fil_full i)).mono ?_
      rintro e w3 ⟨rfl, h4⟩
      have H4 : Shut _ := ⟨h4⟩
      clear h4 H3
      go_wp2_with fail
      refine (H4.out.free (k : Int) true (fil_has HN.out.2.2 (Nat.le_refl _))).mono ?_
      rintro e w4 ⟨rfl, h5⟩
      rw [hole_free HN.out.2.2] at h5
      have H5 : Shut _ := ⟨h5⟩
      clear h5 H4
      go_wp2_with fail
      refine (H5.out.take (hole_put HN.out.2.2)).mono ?_
      rintro e w5 ⟨rfl, h6⟩
      have H6 : Shut _ := ⟨h6⟩
      clear h6 H5
      go_wp2_with fail
      refine (H6.out.take shut_full).mono ?_
      rintro e w6 ⟨rfl, h7⟩
      have H7 : Shut _ := ⟨h7⟩
      clear h7 H6
      go_wp2_with fail
      refine (H7.out.used (i : Int) false (has_n _ i rfl)).mono ?_
      rintro e w7 ⟨rfl, rfl⟩
      go_wp2_with fail
      refine (H7.out.used (-1) false (has_neg _ (by decide))).mono ?_
      rintro e w7 ⟨rfl, rfl⟩
      go_wp2_with fail
      refine (H7.out.free (i : Int) false (has_n _ i rfl)).mono ?_
      rintro e w8 ⟨rfl, h8⟩
      have H8 : Shut _ := ⟨h8⟩
      clear h8 H7
      go_wp2_with fail
      go_ret
      exact ⟨rfl, H8.out.below⟩

theorem own : ownKnob Try.prog.godebug = none := by kernel_rfl
set_option maxRecDepth 100000 in
theorem lifted (os : Os) (started : os.Started) (H : Type) (enc : TypeId × Value → H) :
    ReturnsInHanded {} Try.checked os 4 .any (Rows.cursorRoundsSpec.pre6 enc Try.prog Try.f4 Rows.cursorRoundsRow.domain false) (Rows.cursorRoundsSpec.post enc Try.prog Try.f4 false true false false) := by
  refine returnsInHanded_of_change_sized (C := Try.checked) own started (by kernel_rfl) Try.func4
    (ChangeSpec.witness6 (enc := enc) (C := Try.checked) false ⟨#[], #[.int .u16 0, .int .u16 0], []⟩ 8 (by kernel_rfl) (by kernel_rfl) (by kernel_rfl) (by kernel_rfl)) ?_
  intro W base args ds gs before hval0 hW hcnd hsz _
  have hval : ∀ (j : Nat) t v, Try.f4.params[j]? = some t → args[j]? = some v → Value.okWide Try.prog W .any base t v := hval0
  have hW' := hW
  obtain ⟨p, q, hA0, hV, rfl, hfz, hnd⟩ := hW
  have hA : DataW.TrodAll enc Try.prog W 0 (fun _ => true) true Try.f4.params.toList args.toList ds p := hA0
  rw [Try.params4] at hA hval
  obtain ⟨v0, vs0, d0, ds0, p0, q0, hargs, rfl, rfl, h0, r0⟩ := trodAll_cons hA
  obtain ⟨v1, vs1, d1, ds1, p1, q1, rfl, rfl, rfl, h1, r1⟩ := trodAll_cons r0
  obtain ⟨rfl, rfl, rfl⟩ := trodAll_nil r1
  obtain rfl : args = #[v0, v1] := by cases args; simp_all
  obtain ⟨rfl, rfl⟩ := trodVars_none hV
  obtain ⟨a0, rfl, rfl, rfl, w0⟩ := open_int Try.underlying37 (hval 0 37 v0 rfl rfl) h0
  obtain ⟨a1, rfl, rfl, rfl, w1⟩ := open_int Try.underlying37 (hval 1 37 v1 rfl rfl) h1
  clear hA0 hval0
  simp only [List.append_nil] at hW'
  refine (walk W a0 a1 w0 w1).mono fun e W' ⟨he, bel⟩ => ?_
  subst he
  exact ⟨_, rfl, _, _, _, [], _, [], hW', (trodAll_cons_mk (shut_bool Try.underlying4 _) trodAll_mk0), (trodAll_cons_mk (shut_int Try.underlying37 w0) (trodAll_cons_mk (shut_int Try.underlying37 w1) trodAll_mk0)), rfl, bel.frame _, fun h => by cases h⟩

theorem over : Rows.cursorRoundsRow.holds Try.pinned (OpenSpec.ofChange Rows.cursorRoundsSpec) :=
  OpenClaim.holds_of_wide 4 Try.f4 rfl rfl rfl rfl rfl rfl rfl ⟨rfl, rfl, rfl, rfl, rfl⟩ rfl rfl rfl rfl rfl (by kernel_rfl) Try.func4 (by kernel_rfl)
    (of_decide_eq_true (by kernel_rfl)) (by unfold Func.isWrapper; first | (rw [if_pos (by decide +kernel)]; kernel_rfl) | (rw [if_neg (by decide +kernel)]; exact ⟨rfl, rfl⟩))
    (fun os started H enc _ => lifted os started H enc)

theorem proved : Rows.CursorRoundsSaid := over
#print axioms proved
end Go.Proofs.Ytbncjinkojeioaa.cursorRounds
