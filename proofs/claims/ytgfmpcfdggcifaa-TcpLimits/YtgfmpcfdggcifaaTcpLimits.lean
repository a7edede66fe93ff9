/- The law TcpLimits returns true for every number: a port, a window, flags, options have just the room that they have. -/
import Derived.Test.YtgfmpcfdggcifaaRows
import Derived.OpenShut
import Derived.ShutString
import Derived.ChangeOld
import Derived.Below
import Derived.SizedLaws
import Derived.Test.YtgfmpcfdggcifaaTcOpen
import Derived.Test.YtgfmpcfdggcifaaTcMake
import Derived.Test.YtgfmpcfdggcifaaTcEx
namespace Go.Proofs.Ytgfmpcfdggcifaa.tcpLimits
open Go.ChangeShapes Go.WideShapes Go.ChangeAt Go.RowKit
open Go.ChangeMaps (open_string shut_string)
set_option linter.unusedVariables false
theorem lim_of {h : Hd} {body : ByteArray} {b : Bool} (hb : b = true ↔ RightP h ∧ btotal h body ≤ 1500) : (buildE h body == 0) = b := by
  cases b with
  | true => obtain ⟨h1, h2⟩ := hb.1 rfl; rw [buildE_of h1 h2]; rfl
  | false =>
    have : ¬ buildE h body = 0 := fun he => by have := hb.2 (build_right he); cases this
    simpa using this
theorem z16 (m : Int) (h : 0 ≤ m) : 0 ≤ (0 : Int) ∧ (0 : Int) ≤ m := ⟨Int.le_refl 0, h⟩
theorem z64 : -9223372036854775808 ≤ (0 : Int) ∧ (0 : Int) ≤ 9223372036854775807 := by decide
theorem e40 : (⟨#[]⟩ : ByteArray).size ≤ 40 := by decide
theorem e4 : (⟨#[]⟩ : ByteArray).size % 4 = 0 := by decide
theorem e47 : (⟨#[]⟩ : ByteArray).size ≤ 140737488355328 := by decide
theorem lim_port (p : Int) : (buildE ⟨p, 0, 0, 0, 0, 0, 0, ⟨#[]⟩⟩ ⟨#[]⟩ == 0) = inB p 65535 := by
  refine lim_of ⟨fun h => ⟨⟨(inB_iff _ _).1 h, z16 _ (by decide), z16 _ (by decide), z16 _ (by decide), z16 _ (by decide), e40, e4, opts_nil⟩, by show (20 : Int) + ((0 : Nat) : Int) + ((0 : Nat) : Int) ≤ 1500; decide⟩, fun h => (inB_iff _ _).2 h.1.src⟩
theorem lim_win (p : Int) : (buildE ⟨0, 0, 0, 0, 0, p, 0, ⟨#[]⟩⟩ ⟨#[]⟩ == 0) = inB p 65535 := by
  refine lim_of ⟨fun h => ⟨⟨z16 _ (by decide), z16 _ (by decide), (inB_iff _ _).1 h, z16 _ (by decide), z16 _ (by decide), e40, e4, opts_nil⟩, by show (20 : Int) + ((0 : Nat) : Int) + ((0 : Nat) : Int) ≤ 1500; decide⟩, fun h => (inB_iff _ _).2 h.1.win⟩
theorem lim_flags (p : Int) : (buildE ⟨0, 0, 0, 0, p, 0, 0, ⟨#[]⟩⟩ ⟨#[]⟩ == 0) = inB p 4095 := by
  refine lim_of ⟨fun h => ⟨⟨z16 _ (by decide), z16 _ (by decide), z16 _ (by decide), z16 _ (by decide), (inB_iff _ _).1 h, e40, e4, opts_nil⟩, by show (20 : Int) + ((0 : Nat) : Int) + ((0 : Nat) : Int) ≤ 1500; decide⟩, fun h => (inB_iff _ _).2 h.1.flags⟩
theorem ones_right (n : Nat) (h1 : n ≤ 40) (h2 : n % 4 = 0) (s : Int) (s0 : 0 ≤ s) (s1 : s ≤ 65535) : RightP ⟨s, 0, 0, 0, 0, 0, 0, onesS n⟩ :=
  ⟨⟨s0, s1⟩, by simp, by simp, by simp, by simp, by show (onesS n).size ≤ 40; rw [onesS_size]; exact h1, by show (onesS n).size % 4 = 0; rw [onesS_size]; exact h2, by show optsOk (onesS n).data.toList = true; rw [onesS_list]; exact opts_ones n⟩
theorem ones_wf (n : Nat) (h1 : n ≤ 1000) (s : Int) (s0 : 0 ≤ s) (s1 : s ≤ 65535) : (⟨s, 0, 0, 0, 0, 0, 0, onesS n⟩ : Hd).Wf :=
  ⟨by simp; omega, by simp, by simp, by simp, by simp, by simp, by simp, by show (onesS n).size ≤ _; rw [onesS_size]; omega⟩
theorem lim_ones (n : Nat) : (buildE ⟨0, 0, 0, 0, 0, 0, 0, onesS n⟩ ⟨#[120]⟩ == 0) = (decide (n ≤ 40) && decide (n % 4 = 0)) := by
  refine lim_of ⟨fun h => ?_, fun h => ?_⟩
  · have h : n ≤ 40 ∧ n % 4 = 0 := by simpa using h
    refine ⟨ones_right n h.1 h.2 0 (by decide) (by decide), ?_⟩
    show (20 : Int) + ((onesS n).size : Int) + ((1 : Nat) : Int) ≤ 1500
    rw [onesS_size]; omega
  · have h1 := h.1.o40
    have h2 := h.1.o4
    rw [show (Hd.mk 0 0 0 0 0 0 0 (onesS n)).opts = onesS n from rfl, onesS_size] at h1 h2
    simp [h1, h2]
theorem ones_size1 (n : Nat) (h1 : n ≤ 40) (h2 : n % 4 = 0) : (buildS ⟨0, 0, 0, 0, 0, 0, 0, onesS n⟩ ⟨#[120]⟩).size = 21 + n := by
  have he : buildE ⟨0, 0, 0, 0, 0, 0, 0, onesS n⟩ ⟨#[120]⟩ = 0 := by
    have := lim_ones n
    rw [decide_eq_true h1, decide_eq_true h2] at this
    simpa using this
  rw [buildS_of he, built_size (ones_right n h1 h2 0 (by decide) (by decide)) (ones_wf n (by omega) 0 (by decide) (by decide))]
  rw [show (Hd.mk 0 0 0 0 0 0 0 (onesS n)).opts = onesS n from rfl, onesS_size]
  show 20 + n + 1 = 21 + n
  omega
set_option maxHeartbeats 4000000 in
set_option maxRecDepth 100000 in
theorem walk (w : World) (a0 : Int) (w0 : (Lit.int .i64 a0).wf = true) (a1 : Int) (w1 : (Lit.int .i64 a1).wf = true) (a2 : Int) (w2 : (Lit.int .i64 a2).wf = true) (a3 : Int) (w3 : (Lit.int .u8 a3).wf = true) :
    Calls Try.prog 7 #[.int .i64 a0, .int .i64 a1, .int .i64 a2, .int .u8 a3] w fun e w' => e = .returned (.bool true) ∧ Below w.heap.size w w' := by
  obtain ⟨x0, x1⟩ := bounds_i64 w0
  obtain ⟨y0, y1⟩ := bounds_i64 w1
  obtain ⟨z0, z1⟩ := bounds_i64 w2
  obtain ⟨v0, v1⟩ := bounds_u8 w3
  obtain ⟨N, hN⟩ : ∃ N : Nat, a3 % 60 = N := ⟨(a3 % 60).toNat, by omega⟩
  have hN1 : N < 60 := by omega
  have hmk := make_run (N : Int) (by omega) (by omega)
  simp only [Int.toNat_natCast] at hmk
  go_enter Try.func7, Try.ntmps7
  go_wp2_with fail
  refine (examples_ok _).mono ?_
  rintro e w1' ⟨rfl, hb1⟩
  have HB := hide hb1
  clear hb1
  go_wp2
  have hb1s := (unhide HB).size
  have hbt0 := made_bts w1' N
  have hbl0 := (unhide HB).alloc hb1s (.cells (madeCells #[.int .u8 0] N) 5)
  have HT := hide hbt0
  have HB := hide hbl0
  clear hbt0 hbl0 hmk
  generalize w1'.alloc (.cells (madeCells #[.int .u8 0] N) 5) = W0 at *
  generalize w1'.heap.size = g at *
  go_loopw [12] (fun t W => ∃ i : Nat, i ≤ N ∧ t = .int .i64 i ∧ Bts W g (onesL N i) ∧ Below w.heap.size w W) (fun t _ => N - (intOf t).toNat)
  case atStart => exact ⟨0, Nat.zero_le _, rfl, unhide HT, unhide HB⟩
  case round =>
    obtain ⟨i, hi, rfl, hT, hb⟩ := hrel
    by_cases hlt : i < N
    · have hlt' : (i : Int) < N := by omega
      have hc := (hT i (by rw [onesL_length N i hi]; exact hlt)).1
      have hf := (hT i (by rw [onesL_length N i hi]; exact hlt)).2
      have hT2 := hT.set i (by rw [onesL_length N i hi]; exact hlt) 1 (by decide) (by decide)
      rw [onesL_set N i hlt] at hT2
      have HT2 := hide hT2
      have HB2 := hide (hb.setCell (p := ⟨g, i, none⟩) hb1s (.int .u8 1))
      clear hT hT2 hb
      go_wp2_with fail
      go_roundw
      case rel => exact ⟨i + 1, by omega, by go_num, unhide HT2, unhide HB2⟩
      case measure => simp [intOf]; omega
    · obtain rfl : i = N := by omega
      have htx := fun (W : World) (h : Bts W g (onesL i i)) => h.text i
      rw [onesL_length i i (Nat.le_refl _)] at htx
      have htx : ∀ W, Bts W g (onesL i i) → (convert 38 9 (.slice (some ⟨g, 0, none⟩) i i)).run Try.prog W = .ok (.string (onesS i)) W := htx
      have HTX := hide htx
      have HT := hide hT
      have HB := hide hb
      have hd : decide ((i : Int) < i) = false := by simp
      clear htx hT hb
      have hN2 : i < 60 := hN1
      have e1 := lim_port a0
      have e2 := lim_win a1
      have e3 := lim_flags a2
      have e4 := lim_ones i
      have e5 := ones_size1 i
      have HE1 := hide e1
      have HE2 := hide e2
      have HE3 := hide e3
      have HE4 := hide e4
      have HE5 := hide e5
      clear e1 e2 e3 e4 e5
      go_wp2_with fail
      refine (build_any ⟨a0, 0, 0, 0, 0, 0, 0, ⟨#[]⟩⟩ ⟨#[]⟩ _ ⟨⟨x0, x1⟩, z64, z16 _ (by decide), z16 _ (by decide), z64, z64, z64, e47⟩ (by decide)).mono ?_
      rintro e v1 ⟨rfl, hc1⟩
      have hT1 := (unhide HT).on hc1
      have hb1 := Below.then (unhide HB) hc1
      clear HT HB hc1
      have HT := hide hT1
      have HB := hide hb1
      clear hT1 hb1
      go_wp2_with fail
      refine (build_any ⟨0, 0, 0, 0, 0, a1, 0, ⟨#[]⟩⟩ ⟨#[]⟩ _ ⟨z64, z64, z16 _ (by decide), z16 _ (by decide), z64, ⟨y0, y1⟩, z64, e47⟩ (by decide)).mono ?_
      rintro e v2 ⟨rfl, hc2⟩
      have hT2 := (unhide HT).on hc2
      have hb2 := Below.then (unhide HB) hc2
      clear HT HB hc2
      have HT := hide hT2
      have HB := hide hb2
      clear hT2 hb2
      go_wp2_with fail
      refine (build_any ⟨0, 0, 0, 0, a2, 0, 0, ⟨#[]⟩⟩ ⟨#[]⟩ _ ⟨z64, z64, z16 _ (by decide), z16 _ (by decide), ⟨z0, z1⟩, z64, z64, e47⟩ (by decide)).mono ?_
      rintro e v3 ⟨rfl, hc3⟩
      have hT3 := (unhide HT).on hc3
      have hb3 := Below.then (unhide HB) hc3
      clear HT HB hc3
      have HT := hide hT3
      have HB := hide hb3
      clear hT3 hb3
      have hcv := unhide HTX _ (unhide HT)
      go_wp2_with fail
      clear hcv
      refine (build_any ⟨0, 0, 0, 0, 0, 0, 0, onesS i⟩ ⟨#[120]⟩ _ (ones_wf i (by omega) 0 (by decide) (by decide)) (by decide)).mono ?_
      rintro e v4 ⟨rfl, hc4⟩
      have hT4 := (unhide HT).on hc4
      have hb4 := Below.then (unhide HB) hc4
      clear HT HB hc4
      have HT := hide hT4
      have HB := hide hb4
      clear hT4 hb4
      generalize buildE ⟨a0, 0, 0, 0, 0, 0, 0, ⟨#[]⟩⟩ ⟨#[]⟩ = E1 at *
      generalize buildE ⟨0, 0, 0, 0, 0, a1, 0, ⟨#[]⟩⟩ ⟨#[]⟩ = E2 at *
      generalize buildE ⟨0, 0, 0, 0, a2, 0, 0, ⟨#[]⟩⟩ ⟨#[]⟩ = E3 at *
      generalize buildE ⟨0, 0, 0, 0, 0, 0, 0, onesS i⟩ ⟨#[120]⟩ = E4 at *
      generalize buildS ⟨a0, 0, 0, 0, 0, 0, 0, ⟨#[]⟩⟩ ⟨#[]⟩ = S1 at *
      generalize buildS ⟨0, 0, 0, 0, 0, a1, 0, ⟨#[]⟩⟩ ⟨#[]⟩ = S2 at *
      generalize buildS ⟨0, 0, 0, 0, a2, 0, 0, ⟨#[]⟩⟩ ⟨#[]⟩ = S3 at *
      generalize buildS ⟨0, 0, 0, 0, 0, 0, 0, onesS i⟩ ⟨#[120]⟩ = S4 at *
      generalize onesS i = OS at *
      have e1 := unhide HE1
      have e2 := unhide HE2
      have e3 := unhide HE3
      have e4 := unhide HE4
      have e5 := unhide HE5
      unfold inB at e1 e2 e3
      clear HE1 HE2 HE3 HE4 HE5 HTX HT w0 w1 w2 w3
      by_cases p0 : 0 ≤ a0
      case neg =>
        rw [decide_eq_false p0, Bool.false_and] at e1
        by_cases p1 : 0 ≤ a1
        case neg =>
          rw [decide_eq_false p1, Bool.false_and] at e2
          by_cases p2 : 0 ≤ a2
          case neg =>
            rw [decide_eq_false p2, Bool.false_and] at e3
            by_cases m4 : i % 4 = 0
            case neg =>
              have m4' : ¬ ((i : Int) % 4 = 0) := by omega
              have f4 : (E4 == 0) = false := by rw [e4, decide_eq_false m4, Bool.and_false]
              clear e4 e5 m4
              go_wp2_with fail
              go_ret
              exact ⟨rfl, unhide HB⟩
            case pos =>
              have m4' : (i : Int) % 4 = 0 := by omega
              by_cases m40 : i ≤ 40
              · have m40' : (i : Int) ≤ 40 := by omega
                have f4 : (E4 == 0) = true := by rw [e4, decide_eq_true m4, decide_eq_true m40]; rfl
                have f5 := e5 m40 m4
                have f6 : (S4.size : Int) = 21 + (i : Int) := by omega
                clear e4 e5 m4 m40 f5
                go_wp2_with fail
                go_ret
                exact ⟨rfl, unhide HB⟩
              · have m40' : ¬ ((i : Int) ≤ 40) := by omega
                have f4 : (E4 == 0) = false := by rw [e4, decide_eq_false m40]; rfl
                clear e4 e5 m4 m40
                go_wp2_with fail
                go_ret
                exact ⟨rfl, unhide HB⟩
          case pos =>
            rw [decide_eq_true p2, Bool.true_and] at e3
            by_cases m4 : i % 4 = 0
            case neg =>
              have m4' : ¬ ((i : Int) % 4 = 0) := by omega
              have f4 : (E4 == 0) = false := by rw [e4, decide_eq_false m4, Bool.and_false]
              clear e4 e5 m4
              go_wp2_with fail
              go_ret
              exact ⟨rfl, unhide HB⟩
            case pos =>
              have m4' : (i : Int) % 4 = 0 := by omega
              by_cases m40 : i ≤ 40
              · have m40' : (i : Int) ≤ 40 := by omega
                have f4 : (E4 == 0) = true := by rw [e4, decide_eq_true m4, decide_eq_true m40]; rfl
                have f5 := e5 m40 m4
                have f6 : (S4.size : Int) = 21 + (i : Int) := by omega
                clear e4 e5 m4 m40 f5
                go_wp2_with fail
                go_ret
                exact ⟨rfl, unhide HB⟩
              · have m40' : ¬ ((i : Int) ≤ 40) := by omega
                have f4 : (E4 == 0) = false := by rw [e4, decide_eq_false m40]; rfl
                clear e4 e5 m4 m40
                go_wp2_with fail
                go_ret
                exact ⟨rfl, unhide HB⟩
        case pos =>
          rw [decide_eq_true p1, Bool.true_and] at e2
          by_cases p2 : 0 ≤ a2
          case neg =>
            rw [decide_eq_false p2, Bool.false_and] at e3
            by_cases m4 : i % 4 = 0
            case neg =>
              have m4' : ¬ ((i : Int) % 4 = 0) := by omega
              have f4 : (E4 == 0) = false := by rw [e4, decide_eq_false m4, Bool.and_false]
              clear e4 e5 m4
              go_wp2_with fail
              go_ret
              exact ⟨rfl, unhide HB⟩
            case pos =>
              have m4' : (i : Int) % 4 = 0 := by omega
              by_cases m40 : i ≤ 40
              · have m40' : (i : Int) ≤ 40 := by omega
                have f4 : (E4 == 0) = true := by rw [e4, decide_eq_true m4, decide_eq_true m40]; rfl
                have f5 := e5 m40 m4
                have f6 : (S4.size : Int) = 21 + (i : Int) := by omega
                clear e4 e5 m4 m40 f5
                go_wp2_with fail
                go_ret
                exact ⟨rfl, unhide HB⟩
              · have m40' : ¬ ((i : Int) ≤ 40) := by omega
                have f4 : (E4 == 0) = false := by rw [e4, decide_eq_false m40]; rfl
                clear e4 e5 m4 m40
                go_wp2_with fail
                go_ret
                exact ⟨rfl, unhide HB⟩
          case pos =>
            rw [decide_eq_true p2, Bool.true_and] at e3
            by_cases m4 : i % 4 = 0
            case neg =>
              have m4' : ¬ ((i : Int) % 4 = 0) := by omega
              have f4 : (E4 == 0) = false := by rw [e4, decide_eq_false m4, Bool.and_false]
              clear e4 e5 m4
              go_wp2_with fail
              go_ret
              exact ⟨rfl, unhide HB⟩
            case pos =>
              have m4' : (i : Int) % 4 = 0 := by omega
              by_cases m40 : i ≤ 40
              · have m40' : (i : Int) ≤ 40 := by omega
                have f4 : (E4 == 0) = true := by rw [e4, decide_eq_true m4, decide_eq_true m40]; rfl
                have f5 := e5 m40 m4
                have f6 : (S4.size : Int) = 21 + (i : Int) := by omega
                clear e4 e5 m4 m40 f5
                go_wp2_with fail
                go_ret
                exact ⟨rfl, unhide HB⟩
              · have m40' : ¬ ((i : Int) ≤ 40) := by omega
                have f4 : (E4 == 0) = false := by rw [e4, decide_eq_false m40]; rfl
                clear e4 e5 m4 m40
                go_wp2_with fail
                go_ret
                exact ⟨rfl, unhide HB⟩
      case pos =>
        rw [decide_eq_true p0, Bool.true_and] at e1
        by_cases p1 : 0 ≤ a1
        case neg =>
          rw [decide_eq_false p1, Bool.false_and] at e2
          by_cases p2 : 0 ≤ a2
          case neg =>
            rw [decide_eq_false p2, Bool.false_and] at e3
            by_cases m4 : i % 4 = 0
            case neg =>
              have m4' : ¬ ((i : Int) % 4 = 0) := by omega
              have f4 : (E4 == 0) = false := by rw [e4, decide_eq_false m4, Bool.and_false]
              clear e4 e5 m4
              go_wp2_with fail
              go_ret
              exact ⟨rfl, unhide HB⟩
            case pos =>
              have m4' : (i : Int) % 4 = 0 := by omega
              by_cases m40 : i ≤ 40
              · have m40' : (i : Int) ≤ 40 := by omega
                have f4 : (E4 == 0) = true := by rw [e4, decide_eq_true m4, decide_eq_true m40]; rfl
                have f5 := e5 m40 m4
                have f6 : (S4.size : Int) = 21 + (i : Int) := by omega
                clear e4 e5 m4 m40 f5
                go_wp2_with fail
                go_ret
                exact ⟨rfl, unhide HB⟩
              · have m40' : ¬ ((i : Int) ≤ 40) := by omega
                have f4 : (E4 == 0) = false := by rw [e4, decide_eq_false m40]; rfl
                clear e4 e5 m4 m40
                go_wp2_with fail
                go_ret
                exact ⟨rfl, unhide HB⟩
          case pos =>
            rw [decide_eq_true p2, Bool.true_and] at e3
            by_cases m4 : i % 4 = 0
            case neg =>
              have m4' : ¬ ((i : Int) % 4 = 0) := by omega
              have f4 : (E4 == 0) = false := by rw [e4, decide_eq_false m4, Bool.and_false]
              clear e4 e5 m4
              go_wp2_with fail
              go_ret
              exact ⟨rfl, unhide HB⟩
            case pos =>
              have m4' : (i : Int) % 4 = 0 := by omega
              by_cases m40 : i ≤ 40
              · have m40' : (i : Int) ≤ 40 := by omega
                have f4 : (E4 == 0) = true := by rw [e4, decide_eq_true m4, decide_eq_true m40]; rfl
                have f5 := e5 m40 m4
                have f6 : (S4.size : Int) = 21 + (i : Int) := by omega
                clear e4 e5 m4 m40 f5
                go_wp2_with fail
                go_ret
                exact ⟨rfl, unhide HB⟩
              · have m40' : ¬ ((i : Int) ≤ 40) := by omega
                have f4 : (E4 == 0) = false := by rw [e4, decide_eq_false m40]; rfl
                clear e4 e5 m4 m40
                go_wp2_with fail
                go_ret
                exact ⟨rfl, unhide HB⟩
        case pos =>
          rw [decide_eq_true p1, Bool.true_and] at e2
          by_cases p2 : 0 ≤ a2
          case neg =>
            rw [decide_eq_false p2, Bool.false_and] at e3
            by_cases m4 : i % 4 = 0
            case neg =>
              have m4' : ¬ ((i : Int) % 4 = 0) := by omega
              have f4 : (E4 == 0) = false := by rw [e4, decide_eq_false m4, Bool.and_false]
              clear e4 e5 m4
              go_wp2_with fail
              go_ret
              exact ⟨rfl, unhide HB⟩
            case pos =>
              have m4' : (i : Int) % 4 = 0 := by omega
              by_cases m40 : i ≤ 40
              · have m40' : (i : Int) ≤ 40 := by omega
                have f4 : (E4 == 0) = true := by rw [e4, decide_eq_true m4, decide_eq_true m40]; rfl
                have f5 := e5 m40 m4
                have f6 : (S4.size : Int) = 21 + (i : Int) := by omega
                clear e4 e5 m4 m40 f5
                go_wp2_with fail
                go_ret
                exact ⟨rfl, unhide HB⟩
              · have m40' : ¬ ((i : Int) ≤ 40) := by omega
                have f4 : (E4 == 0) = false := by rw [e4, decide_eq_false m40]; rfl
                clear e4 e5 m4 m40
                go_wp2_with fail
                go_ret
                exact ⟨rfl, unhide HB⟩
          case pos =>
            rw [decide_eq_true p2, Bool.true_and] at e3
            by_cases m4 : i % 4 = 0
            case neg =>
              have m4' : ¬ ((i : Int) % 4 = 0) := by omega
              have f4 : (E4 == 0) = false := by rw [e4, decide_eq_false m4, Bool.and_false]
              clear e4 e5 m4
              go_wp2_with fail
              go_ret
              exact ⟨rfl, unhide HB⟩
            case pos =>
              have m4' : (i : Int) % 4 = 0 := by omega
              by_cases m40 : i ≤ 40
              · have m40' : (i : Int) ≤ 40 := by omega
                have f4 : (E4 == 0) = true := by rw [e4, decide_eq_true m4, decide_eq_true m40]; rfl
                have f5 := e5 m40 m4
                have f6 : (S4.size : Int) = 21 + (i : Int) := by omega
                clear e4 e5 m4 m40 f5
                go_wp2_with fail
                go_ret
                exact ⟨rfl, unhide HB⟩
              · have m40' : ¬ ((i : Int) ≤ 40) := by omega
                have f4 : (E4 == 0) = false := by rw [e4, decide_eq_false m40]; rfl
                clear e4 e5 m4 m40
                go_wp2_with fail
                go_ret
                exact ⟨rfl, unhide HB⟩

theorem own : ownKnob Try.prog.godebug = none := by kernel_rfl
set_option maxRecDepth 100000 in
theorem lifted (os : Os) (started : os.Started) (H : Type) (enc : TypeId × Value → H) :
    ReturnsInHanded {} Try.checked os 7 .any (Rows.tcpLimitsSpec.pre6 enc Try.prog Try.f7 Rows.tcpLimitsRow.domain false) (Rows.tcpLimitsSpec.post enc Try.prog Try.f7 false true false false) := by
  refine returnsInHanded_of_change_sized (C := Try.checked) own started (by kernel_rfl) Try.func7
    (ChangeSpec.witness6 (enc := enc) (C := Try.checked) false ⟨#[], #[.int .i64 0, .int .i64 0, .int .i64 0, .int .u8 0], []⟩ 8 (by kernel_rfl) (by kernel_rfl) (by kernel_rfl) (by kernel_rfl)) ?_
  intro W base args ds gs before hval0 hW hcnd hsz _
  have hval : ∀ (j : Nat) t v, Try.f7.params[j]? = some t → args[j]? = some v → Value.okWide Try.prog W .any base t v := hval0
  have hW' := hW
  obtain ⟨p, q, hA0, hV, rfl, hfz, hnd⟩ := hW
  have hA : DataW.TrodAll enc Try.prog W 0 (fun _ => true) true Try.f7.params.toList args.toList ds p := hA0
  rw [Try.params7] at hA hval
  obtain ⟨v0, vs0, d0, ds0, p0, q0, hargs, rfl, rfl, h0, r0⟩ := trodAll_cons hA
  obtain ⟨v1, vs1, d1, ds1, p1, q1, rfl, rfl, rfl, h1, r1⟩ := trodAll_cons r0
  obtain ⟨v2, vs2, d2, ds2, p2, q2, rfl, rfl, rfl, h2, r2⟩ := trodAll_cons r1
  obtain ⟨v3, vs3, d3, ds3, p3, q3, rfl, rfl, rfl, h3, r3⟩ := trodAll_cons r2
  obtain ⟨rfl, rfl, rfl⟩ := trodAll_nil r3
  obtain rfl : args = #[v0, v1, v2, v3] := by cases args; simp_all
  obtain ⟨rfl, rfl⟩ := trodVars_none hV
  obtain ⟨a0, rfl, rfl, rfl, w0⟩ := open_int Try.underlying3 (hval 0 3 v0 rfl rfl) h0
  obtain ⟨a1, rfl, rfl, rfl, w1⟩ := open_int Try.underlying3 (hval 1 3 v1 rfl rfl) h1
  obtain ⟨a2, rfl, rfl, rfl, w2⟩ := open_int Try.underlying3 (hval 2 3 v2 rfl rfl) h2
  obtain ⟨a3, rfl, rfl, rfl, w3⟩ := open_int Try.underlying5 (hval 3 5 v3 rfl rfl) h3
  clear hA0 hval0
  simp only [List.append_nil] at hW'
  refine (walk W a0 w0 a1 w1 a2 w2 a3 w3).mono fun e W' ⟨he, bel⟩ => ?_
  subst he
  exact ⟨_, rfl, _, _, _, [], _, [], hW', (trodAll_cons_mk (shut_bool Try.underlying4 _) trodAll_mk0), (trodAll_cons_mk (shut_int Try.underlying3 w0) (trodAll_cons_mk (shut_int Try.underlying3 w1) (trodAll_cons_mk (shut_int Try.underlying3 w2) (trodAll_cons_mk (shut_int Try.underlying5 w3) trodAll_mk0)))), rfl, bel.frame _, fun h => by cases h⟩

theorem over : Rows.tcpLimitsRow.holds Try.pinned (OpenSpec.ofChange Rows.tcpLimitsSpec) :=
  OpenClaim.holds_of_wide 7 Try.f7 rfl rfl rfl rfl rfl rfl rfl ⟨rfl, rfl, rfl, rfl, rfl⟩ rfl rfl rfl rfl rfl (by kernel_rfl) Try.func7 (by kernel_rfl)
    (of_decide_eq_true (by kernel_rfl)) (by unfold Func.isWrapper; first | (rw [if_pos (by decide +kernel)]; kernel_rfl) | (rw [if_neg (by decide +kernel)]; exact ⟨rfl, rfl⟩))
    (fun os started H enc _ => lifted os started H enc)

theorem proved : Rows.TcpLimitsSaid := over
#print axioms proved
end Go.Proofs.Ytgfmpcfdggcifaa.tcpLimits
