/- The law AnchorPlays returns true for every room, every number that work and every list of deeds that may be in memory, and changes nothing that was there before; no condition but the form's own. -/
import Derived.Test.YtmmaglhilghofaaRows
import Derived.OpenShut
import Derived.ShutString
import Derived.ChangeOld
import Derived.Below
import Derived.SizedLaws
import Derived.Test.YtmmaglhilghofaaAnPlA
import Derived.Test.YtmmaglhilghofaaAnPlB
import Derived.Test.YtmmaglhilghofaaAnPlC
namespace Go.Proofs.Ytmmaglhilghofaa.anchorPlays
open Go.ChangeShapes Go.WideShapes Go.ChangeAt Go.RowKit
set_option linter.unusedVariables false

theorem walk (w : World) (a0 : Int) (a1 : Int) (a2 : Option Addr) (len2 cap2 : Nat) (w0 : (Lit.int .i64 a0).wf = true) (w1 : (Lit.int .i64 a1).wf = true) (w2 : IsDeeds w a2 len2 cap2) :
    Calls Try.prog 3 #[.int .i64 a0, .int .i64 a1, .slice a2 len2 cap2] w fun e w' => e = .returned (.bool true) ∧ Below w.heap.size w w' := by
  by_cases h1 : 60 < a0
  · by_cases h2 : a0 ≤ 65536
    · have hR : a0.tmod 61 < 61 := Int.tmod_lt_of_pos a0 (by decide)
      have hR0 : 0 ≤ a0.tmod 61 := Int.tmod_nonneg 61 (by omega)
      by_cases q1 : a0.tmod 61 < 1
      · exact plays_bad11 a0 _ a1 a2 len2 cap2 h1 h2 rfl q1 w
      · by_cases q3 : a1 < 1
        · exact plays_bad13 a0 _ a1 a2 len2 cap2 h1 h2 rfl q1 (by omega) q3 w
        · by_cases q4 : a0.tmod 61 < a1
          · exact plays_bad14 a0 _ a1 a2 len2 cap2 h1 h2 rfl q1 (by omega) q3 q4 w
          · obtain ⟨r, hr⟩ := Int.eq_ofNat_of_zero_le hR0
            obtain ⟨n, rfl⟩ := Int.eq_ofNat_of_zero_le (show 0 ≤ a1 by omega)
            rw [hr] at hR q4
            exact plays_good1 a0 r n a2 len2 cap2 h1 h2 hr (by omega) (by omega) (by omega) w w2
    · exact plays_bad32 a0 a1 a2 len2 cap2 h1 h2 (by omega) (by omega) w
  · by_cases q1 : a0 < 1
    · exact plays_bad21 a0 a1 a2 len2 cap2 h1 q1 w
    · by_cases q3 : a1 < 1
      · exact plays_bad23 a0 a1 a2 len2 cap2 h1 q1 (by omega) q3 w
      · by_cases q4 : a0 < a1
        · exact plays_bad24 a0 a1 a2 len2 cap2 h1 q1 (by omega) q3 q4 w
        · obtain ⟨r, rfl⟩ := Int.eq_ofNat_of_zero_le (show 0 ≤ a0 by omega)
          obtain ⟨n, rfl⟩ := Int.eq_ofNat_of_zero_le (show 0 ≤ a1 by omega)
          exact plays_good2 r n a2 len2 cap2 h1 (by omega) (by omega) (by omega) w w2

theorem own : ownKnob Try.prog.godebug = none := by kernel_rfl
theorem laidOut : laidOutB Try.prog = true := by kernel_rfl
set_option maxRecDepth 100000 in
theorem lifted (os : Os) (started : os.Started) (H : Type) (enc : TypeId × Value → H) :
    ReturnsInHanded {} Try.checked os 3 .any (Rows.anchorPlaysSpec.pre6 enc Try.prog Try.f3 Rows.anchorPlaysRow.domain false) (Rows.anchorPlaysSpec.post enc Try.prog Try.f3 false true false false) := by
  refine returnsInHanded_of_change_sized (C := Try.checked) own started (by kernel_rfl) Try.func3
    (ChangeSpec.witness6 (enc := enc) (C := Try.checked) false ⟨#[], #[.int .i64 0, .int .i64 0, .slice none 0 0], []⟩ 8 (by kernel_rfl) (by kernel_rfl) (by kernel_rfl) (by kernel_rfl)) ?_
  intro W base args ds gs before hval0 hW hcnd hsz _
  have hval : ∀ (j : Nat) t v, Try.f3.params[j]? = some t → args[j]? = some v → Value.okWide Try.prog W .any base t v := hval0
  have hW' := hW
  obtain ⟨p, q, hA0, hV, rfl, hfz, hnd⟩ := hW
  have hA : DataW.TrodAll enc Try.prog W 0 (fun _ => true) true Try.f3.params.toList args.toList ds p := hA0
  rw [Try.params3] at hA hval
  obtain ⟨v0, vs0, d0, ds0, p0, q0, hargs, rfl, rfl, h0, r0⟩ := trodAll_cons hA
  obtain ⟨v1, vs1, d1, ds1, p1, q1, rfl, rfl, rfl, h1, r1⟩ := trodAll_cons r0
  obtain ⟨v2, vs2, d2, ds2, p2, q2, rfl, rfl, rfl, h2, r2⟩ := trodAll_cons r1
  obtain ⟨rfl, rfl, rfl⟩ := trodAll_nil r2
  obtain rfl : args = #[v0, v1, v2] := by cases args; simp_all
  obtain ⟨rfl, rfl⟩ := trodVars_none hV
  obtain ⟨a0, rfl, rfl, rfl, w0⟩ := open_int Try.underlying3 (hval 0 3 v0 rfl rfl) h0
  obtain ⟨a1, rfl, rfl, rfl, w1⟩ := open_int Try.underlying3 (hval 1 3 v1 rfl rfl) h1
  obtain ⟨a2, len2, cap2, rfl⟩ := okWide_slice Try.underlying22 (hval 2 22 v2 rfl rfl)
  have k2 := h2
  have lt2 : ∀ x ∈ p2, x.block < W.heap.size := by obtain ⟨m, hm⟩ := k2; exact DataW.trod_lt m _ _ _ hm
  have w2 : IsDeeds W a2 len2 cap2 := by
    obtain ⟨fuel, hf⟩ := h2
    exact open_deeds (by simpa [Value.cells] using hf)
  clear hA0 hval0
  refine (walk W a0 a1 a2 len2 cap2 w0 w1 w2).mono fun e W' ⟨he, bel⟩ => ?_
  subst he
  exact ⟨_, rfl, _, _, _, [], _, [], hW', trodAll_mk1 (shut_bool Try.underlying4 _), (trodAll_cons_mk (shut_int Try.underlying3 w0) (trodAll_cons_mk (shut_int Try.underlying3 w1) (trodAll_cons_mk (Below.trod laidOut (by kernel_rfl) (of_decide_eq_true (by kernel_rfl)) k2 bel lt2) trodAll_mk0))), rfl, bel.frame _, fun h => by cases h⟩

theorem over : Rows.anchorPlaysRow.holds Try.pinned (OpenSpec.ofChange Rows.anchorPlaysSpec) :=
  OpenClaim.holds_of_wide 3 Try.f3 rfl rfl rfl rfl rfl rfl rfl ⟨rfl, rfl, rfl, rfl, rfl⟩ rfl rfl rfl rfl rfl (by kernel_rfl) Try.func3 (by kernel_rfl)
    (of_decide_eq_true (by kernel_rfl)) (by unfold Func.isWrapper; first | (rw [if_pos (by decide +kernel)]; kernel_rfl) | (rw [if_neg (by decide +kernel)]; exact ⟨rfl, rfl⟩))
    (fun os started H enc _ => lifted os started H enc)

theorem proved : Rows.AnchorPlaysSaid := over
#print axioms proved
end Go.Proofs.Ytmmaglhilghofaa.anchorPlays
