/- The law Ip4Back returns true for every header, body and text behind. -/
import Derived.Test.YtfppjpcolohmfaaRows
import Derived.OpenShut
import Derived.ShutString
import Derived.ChangeOld
import Derived.Below
import Derived.SizedLaws
import Derived.Test.YtfppjpcolohmfaaIpOpen
import Derived.Test.YtfppjpcolohmfaaIpKept
namespace Go.Proofs.Ytfppjpcolohmfaa.ip4Back
open Go.ChangeShapes Go.WideShapes Go.ChangeAt Go.RowKit
open Go.ChangeMaps (open_string shut_string)
set_option linter.unusedVariables false
theorem low_head {h : Hd} (body : ByteArray) : (built h body).extract 0 (20 + (h.opts.size : Int)).toNat = bhead h body := by
  unfold built
  exact ext_left _ _ _ (by rw [bhead_size]; omega)
theorem ret_true {b : Bool} (h : b = true) : Ending.returned (.bool b) = .returned (.bool true) := by rw [h]
set_option maxHeartbeats 1000000 in
set_option maxRecDepth 100000 in
theorem walk (w : World) (a0 : Hd) (w0 : a0.Wf) (a1 : ByteArray) (z1 : a1.size ≤ 140737488355328) (a2 : ByteArray) (z2 : a2.size ≤ 140737488355328) :
    Calls Try.prog 5 #[a0.val, .string a1, .string a2] w fun e w' => e = .returned (.bool true) ∧ Below w.heap.size w w' := by
  have hk0 := kept_new w a0 24
  have hos := w0.opts
  go_enter Try.func5, Try.ntmps5
  go_wp2_with fail
  refine (examples_ok _).mono ?_
  rintro e w1 ⟨rfl, hb1⟩
  have hk1 := hk0.on hb1
  clear hb1 hk0
  have q0 := (hk1.at_) 0 (by decide)
  have q1 := (hk1.at_) 1 (by decide)
  have q2 := (hk1.at_) 2 (by decide)
  have q3 := (hk1.at_) 3 (by decide)
  have q4 := (hk1.at_) 4 (by decide)
  have q5 := (hk1.at_) 5 (by decide)
  have q6 := (hk1.at_) 6 (by decide)
  have q7 := (hk1.at_) 7 (by decide)
  have q8 := (hk1.at_) 8 (by decide)
  simp only [hcell] at q0 q1 q2 q3 q4 q5 q6 q7 q8
  have HK := hide hk1
  clear hk1
  go_wp2_with fail
  refine (build_any a0 a1 _ w0 z1).mono ?_
  rintro e w2 ⟨rfl, hb2⟩
  have hk2 := (unhide HK).on hb2
  clear HK hb2
  clear q0 q1 q2 q3 q4 q5 q6 q7 q8
  have HK := hide hk2
  by_cases he : buildE a0 a1 = 0
  case neg =>
    obtain ⟨hs, hor⟩ := build_no he
    rw [hs]
    have hd : (buildE a0 a1 != 0) = true := by simpa using he
    have q0 := (hk2.at_) 0 (by decide)
    have q1 := (hk2.at_) 1 (by decide)
    have q2 := (hk2.at_) 2 (by decide)
    have q3 := (hk2.at_) 3 (by decide)
    have q4 := (hk2.at_) 4 (by decide)
    have q5 := (hk2.at_) 5 (by decide)
    have q6 := (hk2.at_) 6 (by decide)
    have q7 := (hk2.at_) 7 (by decide)
    have q8 := (hk2.at_) 8 (by decide)
    simp only [hcell] at q0 q1 q2 q3 q4 q5 q6 q7 q8
    clear hk2 hs
    go_wp2_with fail
    refine (right_any a0 _ w0).mono ?_
    rintro e w3 ⟨rfl, hb3⟩
    have hk3 := (unhide HK).on hb3
    clear HK hb3
    clear q0 q1 q2 q3 q4 q5 q6 q7 q8
    have q0 := (hk3.at_) 0 (by decide)
    have q1 := (hk3.at_) 1 (by decide)
    have q2 := (hk3.at_) 2 (by decide)
    have q3 := (hk3.at_) 3 (by decide)
    have q4 := (hk3.at_) 4 (by decide)
    have q5 := (hk3.at_) 5 (by decide)
    have q6 := (hk3.at_) 6 (by decide)
    have q7 := (hk3.at_) 7 (by decide)
    have q8 := (hk3.at_) 8 (by decide)
    simp only [hcell] at q0 q1 q2 q3 q4 q5 q6 q7 q8
    have HK := hide hk3
    clear hk3
    cases hr : rightB a0 with
    | false =>
      go_wp2_with fail
      go_ret
      exact ⟨rfl, (unhide HK).below⟩
    | true =>
      have hlt : 1500 < btotal a0 a1 := by
        rcases hor with h | h
        · rw [hr] at h; cases h
        · exact h
      have hd2 : decide (1500 < 20 + (a0.opts.size : Int) + a1.size) = true := by unfold btotal at hlt; simp; omega
      clear hlt hor
      go_wp2_with fail
      go_ret
      exact ⟨rfl, (unhide HK).below⟩
  case pos =>
    obtain ⟨hB, hs⟩ := built_of w0 he
    rw [hs, he]
    have hsz := built_size (h := a0) a1
    have hl := hB.l
    have hbt : btotal a0 a1 = 20 + a0.opts.size + a1.size := rfl
    obtain ⟨p1, p2, p3⟩ := parse_built hB a2
    have hlow := low_head (h := a0) a1
    have hsum := bhead_sum hB
    have hhs := bhead_size (h := a0) a1
    have hr : rightB a0 = true := rightP_to hB.r
    have HBu := hide hB
    clear hB hs he
    generalize built a0 a1 = s at *
    have ha1 := fun (wx : World) => run_string_add_sum (P := Try.prog) (w := wx) s a2 (by omega)
    have hps : (s ++ a2).size ≤ 281474976710656 := by rw [ByteArray.size_append]; omega
    have q0 := (hk2.at_) 0 (by decide)
    have q1 := (hk2.at_) 1 (by decide)
    have q2 := (hk2.at_) 2 (by decide)
    have q3 := (hk2.at_) 3 (by decide)
    have q4 := (hk2.at_) 4 (by decide)
    have q5 := (hk2.at_) 5 (by decide)
    have q6 := (hk2.at_) 6 (by decide)
    have q7 := (hk2.at_) 7 (by decide)
    have q8 := (hk2.at_) 8 (by decide)
    simp only [hcell] at q0 q1 q2 q3 q4 q5 q6 q7 q8
    clear hk2
    go_wp2_with fail
    refine (parse_any _ _ hps).mono ?_
    rintro e w3 ⟨rfl, hb3⟩
    rw [p1, p2, p3]
    have hk3 := (unhide HK).on hb3
    have hn3 := newHd w3 a0 24
    have hk4 := hk3.on (alloc_on w3 (.cells #[.int .i64 a0.tos, .int .i64 a0.id, .int .i64 a0.flags, .int .i64 a0.frag, .int .i64 a0.ttl, .int .i64 a0.proto, .int .u32 a0.src, .int .u32 a0.dst, .string a0.opts] 24))
    clear HK hb3 p1 p2 p3 ha1 hps hk3
    clear q0 q1 q2 q3 q4 q5 q6 q7 q8
    have q0 := (hk4.at_) 0 (by decide)
    have q1 := (hk4.at_) 1 (by decide)
    have q2 := (hk4.at_) 2 (by decide)
    have q3 := (hk4.at_) 3 (by decide)
    have q4 := (hk4.at_) 4 (by decide)
    have q5 := (hk4.at_) 5 (by decide)
    have q6 := (hk4.at_) 6 (by decide)
    have q7 := (hk4.at_) 7 (by decide)
    have q8 := (hk4.at_) 8 (by decide)
    simp only [hcell] at q0 q1 q2 q3 q4 q5 q6 q7 q8
    have r0 := (hn3.at_) 0 (by decide)
    have r1 := (hn3.at_) 1 (by decide)
    have r2 := (hn3.at_) 2 (by decide)
    have r3 := (hn3.at_) 3 (by decide)
    have r4 := (hn3.at_) 4 (by decide)
    have r5 := (hn3.at_) 5 (by decide)
    have r6 := (hn3.at_) 6 (by decide)
    have r7 := (hn3.at_) 7 (by decide)
    have r8 := (hn3.at_) 8 (by decide)
    simp only [hcell] at r0 r1 r2 r3 r4 r5 r6 r7 r8
    have HK := hide hk4
    clear hk4 hn3
    have hd1 : ((s.size : Int) != 20 + (a0.opts.size : Int) + (a1.size : Int)) = false := by simp; omega
    have i0 : 0 ≤ 20 + (a0.opts.size : Int) := by omega
    have i1 : 20 + (a0.opts.size : Int) ≤ s.size := by omega
    go_wp2_with fail
    refine (sum_any _ _ (by omega)).mono ?_
    rintro e w4 ⟨rfl, hb4⟩
    rw [hsum]
    have hk5 := (unhide HK).on hb4
    clear HK hb4 hlow
    clear q0 q1 q2 q3 q4 q5 q6 q7 q8
    clear r0 r1 r2 r3 r4 r5 r6 r7 r8
    have q0 := (hk5.at_) 0 (by decide)
    have q1 := (hk5.at_) 1 (by decide)
    have q2 := (hk5.at_) 2 (by decide)
    have q3 := (hk5.at_) 3 (by decide)
    have q4 := (hk5.at_) 4 (by decide)
    have q5 := (hk5.at_) 5 (by decide)
    have q6 := (hk5.at_) 6 (by decide)
    have q7 := (hk5.at_) 7 (by decide)
    have q8 := (hk5.at_) 8 (by decide)
    simp only [hcell] at q0 q1 q2 q3 q4 q5 q6 q7 q8
    have HK := hide hk5
    clear hk5
    go_wp2_with fail
    refine (right_any a0 _ w0).mono ?_
    rintro e w5 ⟨rfl, hb5⟩
    rw [hr]
    have hk6 := (unhide HK).on hb5
    have HK := hide hk6
    clear hk6 hb5
    clear q0 q1 q2 q3 q4 q5 q6 q7 q8
    go_wp2_with fail
    go_ret
    exact ⟨rfl, (unhide HK).below⟩

theorem own : ownKnob Try.prog.godebug = none := by kernel_rfl
set_option maxRecDepth 100000 in
theorem lifted (os : Os) (started : os.Started) (H : Type) (enc : TypeId × Value → H) :
    ReturnsInHanded {} Try.checked os 5 .any (Rows.ip4BackSpec.pre6 enc Try.prog Try.f5 Rows.ip4BackRow.domain false) (Rows.ip4BackSpec.post enc Try.prog Try.f5 false true false false) := by
  refine returnsInHanded_of_change_sized (C := Try.checked) own started (by kernel_rfl) Try.func5
    (ChangeSpec.witness6 (enc := enc) (C := Try.checked) false ⟨#[], #[.agg #[.int .i64 0, .int .i64 0, .int .i64 0, .int .i64 0, .int .i64 0, .int .i64 0, .int .u32 0, .int .u32 0, .string ByteArray.empty], .string ByteArray.empty, .string ByteArray.empty], []⟩ 8 (by kernel_rfl) (by kernel_rfl) (by kernel_rfl) (by kernel_rfl)) ?_
  intro W base args ds gs before hval0 hW hcnd hsz _
  have hval : ∀ (j : Nat) t v, Try.f5.params[j]? = some t → args[j]? = some v → Value.okWide Try.prog W .any base t v := hval0
  have hW' := hW
  obtain ⟨p, q, hA0, hV, rfl, hfz, hnd⟩ := hW
  have hA : DataW.TrodAll enc Try.prog W 0 (fun _ => true) true Try.f5.params.toList args.toList ds p := hA0
  rw [Try.params5] at hA hval
  obtain ⟨v0, vs0, d0, ds0, p0, q0, hargs, rfl, rfl, h0, r0⟩ := trodAll_cons hA
  obtain ⟨v1, vs1, d1, ds1, p1, q1, rfl, rfl, rfl, h1, r1⟩ := trodAll_cons r0
  obtain ⟨v2, vs2, d2, ds2, p2, q2, rfl, rfl, rfl, h2, r2⟩ := trodAll_cons r1
  obtain ⟨rfl, rfl, rfl⟩ := trodAll_nil r2
  obtain rfl : args = #[v0, v1, v2] := by cases args; simp_all
  obtain ⟨rfl, rfl⟩ := trodVars_none hV
  obtain ⟨a0, rfl, rfl, rfl, f0⟩ := open_head (hval 0 24 v0 rfl rfl) h0
  obtain ⟨a1, rfl, rfl, rfl, w1⟩ := open_string Try.underlying9 (hval 1 9 v1 rfl rfl) h1
  obtain ⟨a2, rfl, rfl, rfl, w2⟩ := open_string Try.underlying9 (hval 2 9 v2 rfl rfl) h2
  clear hA0 hval0
  simp only [List.append_nil] at hW'
  have w0 : a0.Wf := f0.wf (sized_head hsz (j := 0) rfl rfl)
  have z1 : a1.size ≤ 140737488355328 := by
    have hq : a1.data.toList.length ≤ reachBytes := sized_string hsz (j := 1) (t := 9) rfl rfl
    have e : a1.data.toList.length = a1.size := by rw [Array.length_toList]; rfl
    rw [e] at hq
    exact Nat.le_trans hq (by decide)
  have z2 : a2.size ≤ 140737488355328 := by
    have hq : a2.data.toList.length ≤ reachBytes := sized_string hsz (j := 2) (t := 9) rfl rfl
    have e : a2.data.toList.length = a2.size := by rw [Array.length_toList]; rfl
    rw [e] at hq
    exact Nat.le_trans hq (by decide)
  refine (walk W a0 w0 a1 z1 a2 z2).mono fun e W' ⟨he, bel⟩ => ?_
  subst he
  exact ⟨_, rfl, _, _, _, [], _, [], hW', (trodAll_cons_mk (shut_bool Try.underlying4 _) trodAll_mk0), (trodAll_cons_mk (shut_head a0 f0) (trodAll_cons_mk (shut_string Try.underlying9 w1) (trodAll_cons_mk (shut_string Try.underlying9 w2) trodAll_mk0))), rfl, bel.frame _, fun h => by cases h⟩

theorem over : Rows.ip4BackRow.holds Try.pinned (OpenSpec.ofChange Rows.ip4BackSpec) :=
  OpenClaim.holds_of_wide 5 Try.f5 rfl rfl rfl rfl rfl rfl rfl ⟨rfl, rfl, rfl, rfl, rfl⟩ rfl rfl rfl rfl rfl (by kernel_rfl) Try.func5 (by kernel_rfl)
    (of_decide_eq_true (by kernel_rfl)) (by unfold Func.isWrapper; first | (rw [if_pos (by decide +kernel)]; kernel_rfl) | (rw [if_neg (by decide +kernel)]; exact ⟨rfl, rfl⟩))
    (fun os started H enc _ => lifted os started H enc)

theorem proved : Rows.Ip4BackSaid := over
#print axioms proved
end Go.Proofs.Ytfppjpcolohmfaa.ip4Back
