/- The law UdpLong returns true for every number of bytes too many and every port, and changes nothing that was there before; no condition but the form's own. -/
import Derived.Test.YteijemjbpfkghaaRows
import Derived.OpenShut
import Derived.ShutString
import Derived.ChangeOld
import Derived.Below
import Derived.SizedLaws
import Derived.Test.YteijemjbpfkghaaUdEx
import Derived.Test.YteijemjbpfkghaaUdMake
namespace Go.Proofs.Yteijemjbpfkghaa.udpLong
open Go.ChangeShapes Go.WideShapes Go.ChangeAt Go.RowKit
open Go.ChangeMaps (open_string shut_string)
set_option linter.unusedVariables false
theorem long_yes (n : Nat) (h : n ≤ 1492) : buildE 1 2 (zeroS n) = 0 := buildE_of (by decide) (by decide) (by rw [zeroS_size]; exact h)
theorem long_no (n : Nat) (h : 1492 < n) : buildE 1 2 (zeroS n) = 18 := by
  unfold buildE
  rw [if_neg (by decide), zeroS_size, if_pos (by omega)]
theorem port_left (p : Int) : buildE p 2 ⟨#[]⟩ = if inP p = true then 0 else 1 := by
  unfold buildE textB
  cases inP p with
  | true => rfl
  | false => rfl
theorem port_right (p : Int) : buildE 2 p ⟨#[]⟩ = if inP p = true then 0 else 1 := by
  unfold buildE textB
  cases inP p with
  | true => rfl
  | false => rfl
set_option maxHeartbeats 1000000 in
set_option maxRecDepth 100000 in
theorem walk (w : World) (a0 : Int) (a1 : Int) (w0 : (Lit.int .u8 a0).wf = true) (w1 : (Lit.int .i64 a1).wf = true) :
    Calls Try.prog 6 #[.int .u8 a0, .int .i64 a1] w fun e w' => e = .returned (.bool true) ∧ Below w.heap.size w w' := by
  obtain ⟨x0, x1⟩ := bounds_u8 w0
  obtain ⟨y0, y1⟩ := bounds_i64 w1
  obtain ⟨N, hN⟩ : ∃ N : Nat, 1493 + a0 = N := ⟨(1493 + a0).toNat, by omega⟩
  have hmk1 := make_run 1492 (by decide) (by decide)
  have hmk2 := make_run (N : Int) (by omega) (by omega)
  simp only [Int.toNat_natCast] at hmk2
  have hcv1 := fun W => conv_zeros W 1492
  have hcv2 := fun W => conv_zeros W N
  have H1 : Hid (∀ u, Calls Try.prog 10 #[.int .i64 1, .int .i64 2, .string (zeroS 1492)] u fun e u' => e = .returned (.tuple #[.string (buildS 1 2 (zeroS 1492)), .int .i64 0]) ∧ Below u.heap.size u u') := fun u => by
    have := build_any 1 2 (zeroS 1492) u (by rw [zeroS_size]; decide)
    rw [long_yes 1492 (by decide)] at this
    exact this
  have H2 : Hid (∀ u, Calls Try.prog 10 #[.int .i64 1, .int .i64 2, .string (zeroS N)] u fun e u' => e = .returned (.tuple #[.string ⟨#[]⟩, .int .i64 18]) ∧ Below u.heap.size u u') := fun u => by
    have := build_any 1 2 (zeroS N) u (by rw [zeroS_size]; omega)
    have he := long_no N (by omega)
    rw [buildS_no (by rw [he]; decide), he] at this
    exact this
  have H3 : Hid (∀ u, Calls Try.prog 10 #[.int .i64 a1, .int .i64 2, .string ⟨#[]⟩] u fun e u' => e = .returned (.tuple #[.string (buildS a1 2 ⟨#[]⟩), .int .i64 (if inP a1 = true then 0 else 1)]) ∧ Below u.heap.size u u') := fun u => by
    have := build_any a1 2 ⟨#[]⟩ u (by decide)
    rw [port_left] at this
    exact this
  have H4 : Hid (∀ u, Calls Try.prog 10 #[.int .i64 2, .int .i64 a1, .string ⟨#[]⟩] u fun e u' => e = .returned (.tuple #[.string (buildS 2 a1 ⟨#[]⟩), .int .i64 (if inP a1 = true then 0 else 1)]) ∧ Below u.heap.size u u') := fun u => by
    have := build_any 2 a1 ⟨#[]⟩ u (by decide)
    rw [port_right] at this
    exact this
  generalize buildS 1 2 (zeroS 1492) = S1 at *
  generalize buildS a1 2 ⟨#[]⟩ = S3 at *
  generalize buildS 2 a1 ⟨#[]⟩ = S4 at *
  generalize zeroS 1492 = Z1 at *
  generalize zeroS N = Z2 at *
  have hlast : ∀ E : Int, E = (if inP a1 = true then 0 else 1) → ((E == 0) == (decide (0 ≤ a1) && decide (a1 ≤ 65535))) = true := fun E hE => by
    rw [hE]; unfold inP
    cases (decide (0 ≤ a1) && decide (a1 ≤ 65535)) <;> rfl
  generalize hE : (if inP a1 = true then (0 : Int) else 1) = E at *
  have hq := hlast E rfl
  clear hlast
  cases p0 : decide (0 ≤ a1) with
  | false =>
    rw [p0, Bool.false_and] at hq
    have e0 : (E == 0) = false := by simpa using hq
    clear hq hE
    go_enter Try.func6, Try.ntmps6
    go_wp2_with fail
    refine (examples_ok _).mono ?_
    rintro e w1' ⟨rfl, hb1⟩
    have HB := hide hb1
    clear hb1
    go_wp2_with fail
    refine (H1.out _).mono ?_
    rintro e w2' ⟨rfl, hb1⟩
    have HB := hide (Below.then (unhide HB) (Below.then ((Below.refl w1'.heap.size w1').alloc (Nat.le_refl _) _) hb1))
    clear hb1
    go_wp2_with fail
    refine (H2.out _).mono ?_
    rintro e w3' ⟨rfl, hb1⟩
    have HB := hide (Below.then (unhide HB) (Below.then ((Below.refl w2'.heap.size w2').alloc (Nat.le_refl _) _) hb1))
    clear hb1
    go_wp2_with fail
    refine (H3.out _).mono ?_
    rintro e w4' ⟨rfl, hb1⟩
    have HB := hide (Below.then (unhide HB) hb1)
    clear hb1
    go_wp2_with fail
    refine (H4.out _).mono ?_
    rintro e w5' ⟨rfl, hb1⟩
    have HB := hide (Below.then (unhide HB) hb1)
    clear hb1
    go_wp2_with fail
    go_ret
    exact ⟨rfl, unhide HB⟩
  | true =>
    rw [p0, Bool.true_and] at hq
    have e0 : (E == 0) = decide (a1 ≤ 65535) := by simpa using hq
    clear hq hE
    go_enter Try.func6, Try.ntmps6
    go_wp2_with fail
    refine (examples_ok _).mono ?_
    rintro e w1' ⟨rfl, hb1⟩
    have HB := hide hb1
    clear hb1
    go_wp2_with fail
    refine (H1.out _).mono ?_
    rintro e w2' ⟨rfl, hb1⟩
    have HB := hide (Below.then (unhide HB) (Below.then ((Below.refl w1'.heap.size w1').alloc (Nat.le_refl _) _) hb1))
    clear hb1
    go_wp2_with fail
    refine (H2.out _).mono ?_
    rintro e w3' ⟨rfl, hb1⟩
    have HB := hide (Below.then (unhide HB) (Below.then ((Below.refl w2'.heap.size w2').alloc (Nat.le_refl _) _) hb1))
    clear hb1
    go_wp2_with fail
    refine (H3.out _).mono ?_
    rintro e w4' ⟨rfl, hb1⟩
    have HB := hide (Below.then (unhide HB) hb1)
    clear hb1
    go_wp2_with fail
    refine (H4.out _).mono ?_
    rintro e w5' ⟨rfl, hb1⟩
    have HB := hide (Below.then (unhide HB) hb1)
    clear hb1
    go_wp2_with fail
    go_ret
    exact ⟨rfl, unhide HB⟩

theorem own : ownKnob Try.prog.godebug = none := by kernel_rfl
set_option maxRecDepth 100000 in
theorem lifted (os : Os) (started : os.Started) (H : Type) (enc : TypeId × Value → H) :
    ReturnsInHanded {} Try.checked os 6 .any (Rows.udpLongSpec.pre6 enc Try.prog Try.f6 Rows.udpLongRow.domain false) (Rows.udpLongSpec.post enc Try.prog Try.f6 false true false false) := by
  refine returnsInHanded_of_change_sized (C := Try.checked) own started (by kernel_rfl) Try.func6
    (ChangeSpec.witness6 (enc := enc) (C := Try.checked) false ⟨#[], #[.int .u8 0, .int .i64 0], []⟩ 8 (by kernel_rfl) (by kernel_rfl) (by kernel_rfl) (by kernel_rfl)) ?_
  intro W base args ds gs before hval0 hW hcnd hsz _
  have hval : ∀ (j : Nat) t v, Try.f6.params[j]? = some t → args[j]? = some v → Value.okWide Try.prog W .any base t v := hval0
  have hW' := hW
  obtain ⟨p, q, hA0, hV, rfl, hfz, hnd⟩ := hW
  have hA : DataW.TrodAll enc Try.prog W 0 (fun _ => true) true Try.f6.params.toList args.toList ds p := hA0
  rw [Try.params6] at hA hval
  obtain ⟨v0, vs0, d0, ds0, p0, q0, hargs, rfl, rfl, h0, r0⟩ := trodAll_cons hA
  obtain ⟨v1, vs1, d1, ds1, p1, q1, rfl, rfl, rfl, h1, r1⟩ := trodAll_cons r0
  obtain ⟨rfl, rfl, rfl⟩ := trodAll_nil r1
  obtain rfl : args = #[v0, v1] := by cases args; simp_all
  obtain ⟨rfl, rfl⟩ := trodVars_none hV
  obtain ⟨a0, rfl, rfl, rfl, w0⟩ := open_int Try.underlying5 (hval 0 5 v0 rfl rfl) h0
  obtain ⟨a1, rfl, rfl, rfl, w1⟩ := open_int Try.underlying3 (hval 1 3 v1 rfl rfl) h1
  clear hA0 hval0
  simp only [List.append_nil] at hW'
  refine (walk W a0 a1 w0 w1).mono fun e W' ⟨he, bel⟩ => ?_
  subst he
  exact ⟨_, rfl, _, _, _, [], _, [], hW', (trodAll_cons_mk (shut_bool Try.underlying4 _) trodAll_mk0), (trodAll_cons_mk (shut_int Try.underlying5 w0) (trodAll_cons_mk (shut_int Try.underlying3 w1) trodAll_mk0)), rfl, bel.frame _, fun h => by cases h⟩

theorem over : Rows.udpLongRow.holds Try.pinned (OpenSpec.ofChange Rows.udpLongSpec) :=
  OpenClaim.holds_of_wide 6 Try.f6 rfl rfl rfl rfl rfl rfl rfl ⟨rfl, rfl, rfl, rfl, rfl⟩ rfl rfl rfl rfl rfl (by kernel_rfl) Try.func6 (by kernel_rfl)
    (of_decide_eq_true (by kernel_rfl)) (by unfold Func.isWrapper; first | (rw [if_pos (by decide +kernel)]; kernel_rfl) | (rw [if_neg (by decide +kernel)]; exact ⟨rfl, rfl⟩))
    (fun os started H enc _ => lifted os started H enc)

theorem proved : Rows.UdpLongSaid := over
#print axioms proved
end Go.Proofs.Yteijemjbpfkghaa.udpLong
