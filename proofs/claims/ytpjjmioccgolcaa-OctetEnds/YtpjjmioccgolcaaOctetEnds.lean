/- OctetEnds answers true for every text, every size of 8 bits and every n of 32 bits, and changes nothing that was there before; no condition. -/
import Derived.Test.YtpjjmioccgolcaaRows
import Derived.Test.YtpjjmioccgolcaaLaw
import Derived.WalkKit
import Derived.ProofKit
import Derived.OpenShut
import Derived.ShutString
namespace Go.Proofs.Ytpjjmioccgolcaa.octetEnds
open Go.ChangeShapes Go.WideShapes Go.ChangeAt Go.RowKit
open Go.ChangeMaps (open_string shut_string)
set_option linter.unusedVariables false      -- a walk need not use every 'w<i>' (that an integer argument fits its kind)

theorem own : ownKnob Try.prog.godebug = none := by kernel_rfl

/-! ### STEP 1: THE WALK: the Go text returns true. 'Grown w w'': the world has at most new blocks (Derived/RowKit3.lean). Part the cases AHEAD of 'go_enter' where a test parts the walk; take each callee by a contract of your own. -/
set_option maxHeartbeats 1000000 in
theorem walk1l (a0 : ByteArray) (a1 a2 : Int) (w0 : a0.size ≤ maxLen) (b0 : 0 ≤ a2) (b1 : a2 ≤ 4294967295) (c0 : 0 ≤ a1) (c1 : a1 ≤ 255) (hk : a1 % 4 = 0) (hl : (1 : Int) ≤ a0.size) (w : World) :
    Calls Try.prog 5 #[.string a0, .int .u8 a1, .int .u32 a2] w fun e w' => e = .returned (.bool true) ∧ Grown w w' := by
  have w0' := w0
  unfold maxLen at w0
  have hand : bits .and .i64 a2 255 = a2 % 256 := Oct.and_1 a2 b0 b1
  go_enter Try.func5, Try.ntmps5
  go_wp2_with fail
  refine (examples_ok _).mono ?_
  rintro e w1 ⟨rfl, hg1⟩
  go_wp2_with fail
  refine (get_no _ _ _ _ w0' (by omega)).mono ?_
  rintro e w1 ⟨rfl, rfl⟩
  go_wp2_with fail
  refine (get_no _ _ _ _ w0' (by omega)).mono ?_
  rintro e w1 ⟨rfl, rfl⟩
  go_wp2_with fail
  refine (get_no _ _ _ _ w0' (by omega)).mono ?_
  rintro e w1 ⟨rfl, rfl⟩
  go_wp2_with fail
  refine (get_no _ _ _ _ w0' (by omega)).mono ?_
  rintro e w1 ⟨rfl, rfl⟩
  go_wp2_with fail
  refine (set_no1 _ _ _ _ _ w0' (by omega)).mono ?_
  rintro e w1 ⟨rfl, rfl⟩
  go_wp2_with fail
  refine (set_yes _ _ _ _ _ w0' (by omega) (by omega) (by omega) (by omega) (by omega) (by rw [show (1 : Int).toNat = 1 from rfl]; omega)).mono ?_
  rintro e w2 ⟨rfl, hg2⟩
  go_wp2_with fail
  refine (put_no _ _ _ (by omega)).mono ?_
  rintro e w1 ⟨rfl, rfl⟩
  go_wp2_with fail
  refine (put1_no _ _ (by omega) (by omega)).mono ?_
  rintro e w1 ⟨rfl, rfl⟩
  go_wp2_with fail
  go_ret
  exact ⟨rfl, Oct.grown_trans hg1 hg2⟩

set_option maxHeartbeats 1000000 in
theorem walk1s (a0 : ByteArray) (a1 a2 : Int) (w0 : a0.size ≤ maxLen) (b0 : 0 ≤ a2) (b1 : a2 ≤ 4294967295) (c0 : 0 ≤ a1) (c1 : a1 ≤ 255) (hk : a1 % 4 = 0) (hl : (a0.size : Int) < 1) (w : World) :
    Calls Try.prog 5 #[.string a0, .int .u8 a1, .int .u32 a2] w fun e w' => e = .returned (.bool true) ∧ Grown w w' := by
  have w0' := w0
  unfold maxLen at w0
  have hd : decide ((1 : Int) ≤ a0.size) = false := by simp; omega
  have hand : bits .and .i64 a2 255 = a2 % 256 := Oct.and_1 a2 b0 b1
  go_enter Try.func5, Try.ntmps5
  go_wp2_with fail
  refine (examples_ok _).mono ?_
  rintro e w1 ⟨rfl, hg1⟩
  go_wp2_with fail
  refine (get_no _ _ _ _ w0' (by omega)).mono ?_
  rintro e w1 ⟨rfl, rfl⟩
  go_wp2_with fail
  refine (get_no _ _ _ _ w0' (by omega)).mono ?_
  rintro e w1 ⟨rfl, rfl⟩
  go_wp2_with fail
  refine (get_no _ _ _ _ w0' (by omega)).mono ?_
  rintro e w1 ⟨rfl, rfl⟩
  go_wp2_with fail
  refine (get_no _ _ _ _ w0' (by omega)).mono ?_
  rintro e w1 ⟨rfl, rfl⟩
  go_wp2_with fail
  refine (set_no1 _ _ _ _ _ w0' (by omega)).mono ?_
  rintro e w1 ⟨rfl, rfl⟩
  go_wp2_with fail
  refine (set_no1 _ _ _ _ _ w0' (by omega)).mono ?_
  rintro e w2 ⟨rfl, rfl⟩
  go_wp2_with fail
  refine (put_no _ _ _ (by omega)).mono ?_
  rintro e w1 ⟨rfl, rfl⟩
  go_wp2_with fail
  refine (put1_no _ _ (by omega) (by omega)).mono ?_
  rintro e w1 ⟨rfl, rfl⟩
  go_wp2_with fail
  go_ret
  exact ⟨rfl, hg1⟩

set_option maxHeartbeats 1000000 in
theorem walk2l (a0 : ByteArray) (a1 a2 : Int) (w0 : a0.size ≤ maxLen) (b0 : 0 ≤ a2) (b1 : a2 ≤ 4294967295) (c0 : 0 ≤ a1) (c1 : a1 ≤ 255) (hk : a1 % 4 = 1) (hl : (2 : Int) ≤ a0.size) (w : World) :
    Calls Try.prog 5 #[.string a0, .int .u8 a1, .int .u32 a2] w fun e w' => e = .returned (.bool true) ∧ Grown w w' := by
  have w0' := w0
  unfold maxLen at w0
  have hand : bits .and .i64 a2 65535 = a2 % 65536 := Oct.and_2 a2 b0 b1
  go_enter Try.func5, Try.ntmps5
  go_wp2_with fail
  refine (examples_ok _).mono ?_
  rintro e w1 ⟨rfl, hg1⟩
  go_wp2_with fail
  refine (get_no _ _ _ _ w0' (by omega)).mono ?_
  rintro e w1 ⟨rfl, rfl⟩
  go_wp2_with fail
  refine (get_no _ _ _ _ w0' (by omega)).mono ?_
  rintro e w1 ⟨rfl, rfl⟩
  go_wp2_with fail
  refine (get_no _ _ _ _ w0' (by omega)).mono ?_
  rintro e w1 ⟨rfl, rfl⟩
  go_wp2_with fail
  refine (get_no _ _ _ _ w0' (by omega)).mono ?_
  rintro e w1 ⟨rfl, rfl⟩
  go_wp2_with fail
  refine (set_no1 _ _ _ _ _ w0' (by omega)).mono ?_
  rintro e w1 ⟨rfl, rfl⟩
  go_wp2_with fail
  refine (set_yes _ _ _ _ _ w0' (by omega) (by omega) (by omega) (by omega) (by omega) (by rw [show (2 : Int).toNat = 2 from rfl]; omega)).mono ?_
  rintro e w2 ⟨rfl, hg2⟩
  go_wp2_with fail
  refine (put_no _ _ _ (by omega)).mono ?_
  rintro e w1 ⟨rfl, rfl⟩
  go_wp2_with fail
  refine (put2_no _ _ (by omega) (by omega)).mono ?_
  rintro e w1 ⟨rfl, rfl⟩
  go_wp2_with fail
  go_ret
  exact ⟨rfl, Oct.grown_trans hg1 hg2⟩

set_option maxHeartbeats 1000000 in
theorem walk2s (a0 : ByteArray) (a1 a2 : Int) (w0 : a0.size ≤ maxLen) (b0 : 0 ≤ a2) (b1 : a2 ≤ 4294967295) (c0 : 0 ≤ a1) (c1 : a1 ≤ 255) (hk : a1 % 4 = 1) (hl : (a0.size : Int) < 2) (w : World) :
    Calls Try.prog 5 #[.string a0, .int .u8 a1, .int .u32 a2] w fun e w' => e = .returned (.bool true) ∧ Grown w w' := by
  have w0' := w0
  unfold maxLen at w0
  have hd : decide ((2 : Int) ≤ a0.size) = false := by simp; omega
  have hand : bits .and .i64 a2 65535 = a2 % 65536 := Oct.and_2 a2 b0 b1
  go_enter Try.func5, Try.ntmps5
  go_wp2_with fail
  refine (examples_ok _).mono ?_
  rintro e w1 ⟨rfl, hg1⟩
  go_wp2_with fail
  refine (get_no _ _ _ _ w0' (by omega)).mono ?_
  rintro e w1 ⟨rfl, rfl⟩
  go_wp2_with fail
  refine (get_no _ _ _ _ w0' (by omega)).mono ?_
  rintro e w1 ⟨rfl, rfl⟩
  go_wp2_with fail
  refine (get_no _ _ _ _ w0' (by omega)).mono ?_
  rintro e w1 ⟨rfl, rfl⟩
  go_wp2_with fail
  refine (get_no _ _ _ _ w0' (by omega)).mono ?_
  rintro e w1 ⟨rfl, rfl⟩
  go_wp2_with fail
  refine (set_no1 _ _ _ _ _ w0' (by omega)).mono ?_
  rintro e w1 ⟨rfl, rfl⟩
  go_wp2_with fail
  refine (set_no1 _ _ _ _ _ w0' (by omega)).mono ?_
  rintro e w2 ⟨rfl, rfl⟩
  go_wp2_with fail
  refine (put_no _ _ _ (by omega)).mono ?_
  rintro e w1 ⟨rfl, rfl⟩
  go_wp2_with fail
  refine (put2_no _ _ (by omega) (by omega)).mono ?_
  rintro e w1 ⟨rfl, rfl⟩
  go_wp2_with fail
  go_ret
  exact ⟨rfl, hg1⟩

set_option maxHeartbeats 1000000 in
theorem walk3l (a0 : ByteArray) (a1 a2 : Int) (w0 : a0.size ≤ maxLen) (b0 : 0 ≤ a2) (b1 : a2 ≤ 4294967295) (c0 : 0 ≤ a1) (c1 : a1 ≤ 255) (hk : a1 % 4 = 2) (hl : (3 : Int) ≤ a0.size) (w : World) :
    Calls Try.prog 5 #[.string a0, .int .u8 a1, .int .u32 a2] w fun e w' => e = .returned (.bool true) ∧ Grown w w' := by
  have w0' := w0
  unfold maxLen at w0
  have hand : bits .and .i64 a2 16777215 = a2 % 16777216 := Oct.and_3 a2 b0 b1
  go_enter Try.func5, Try.ntmps5
  go_wp2_with fail
  refine (examples_ok _).mono ?_
  rintro e w1 ⟨rfl, hg1⟩
  go_wp2_with fail
  refine (get_no _ _ _ _ w0' (by omega)).mono ?_
  rintro e w1 ⟨rfl, rfl⟩
  go_wp2_with fail
  refine (get_no _ _ _ _ w0' (by omega)).mono ?_
  rintro e w1 ⟨rfl, rfl⟩
  go_wp2_with fail
  refine (get_no _ _ _ _ w0' (by omega)).mono ?_
  rintro e w1 ⟨rfl, rfl⟩
  go_wp2_with fail
  refine (get_no _ _ _ _ w0' (by omega)).mono ?_
  rintro e w1 ⟨rfl, rfl⟩
  go_wp2_with fail
  refine (set_no1 _ _ _ _ _ w0' (by omega)).mono ?_
  rintro e w1 ⟨rfl, rfl⟩
  go_wp2_with fail
  refine (set_yes _ _ _ _ _ w0' (by omega) (by omega) (by omega) (by omega) (by omega) (by rw [show (3 : Int).toNat = 3 from rfl]; omega)).mono ?_
  rintro e w2 ⟨rfl, hg2⟩
  go_wp2_with fail
  refine (put_no _ _ _ (by omega)).mono ?_
  rintro e w1 ⟨rfl, rfl⟩
  go_wp2_with fail
  refine (put3_no _ _ (by omega) (by omega)).mono ?_
  rintro e w1 ⟨rfl, rfl⟩
  go_wp2_with fail
  go_ret
  exact ⟨rfl, Oct.grown_trans hg1 hg2⟩

set_option maxHeartbeats 1000000 in
theorem walk3s (a0 : ByteArray) (a1 a2 : Int) (w0 : a0.size ≤ maxLen) (b0 : 0 ≤ a2) (b1 : a2 ≤ 4294967295) (c0 : 0 ≤ a1) (c1 : a1 ≤ 255) (hk : a1 % 4 = 2) (hl : (a0.size : Int) < 3) (w : World) :
    Calls Try.prog 5 #[.string a0, .int .u8 a1, .int .u32 a2] w fun e w' => e = .returned (.bool true) ∧ Grown w w' := by
  have w0' := w0
  unfold maxLen at w0
  have hd : decide ((3 : Int) ≤ a0.size) = false := by simp; omega
  have hand : bits .and .i64 a2 16777215 = a2 % 16777216 := Oct.and_3 a2 b0 b1
  go_enter Try.func5, Try.ntmps5
  go_wp2_with fail
  refine (examples_ok _).mono ?_
  rintro e w1 ⟨rfl, hg1⟩
  go_wp2_with fail
  refine (get_no _ _ _ _ w0' (by omega)).mono ?_
  rintro e w1 ⟨rfl, rfl⟩
  go_wp2_with fail
  refine (get_no _ _ _ _ w0' (by omega)).mono ?_
  rintro e w1 ⟨rfl, rfl⟩
  go_wp2_with fail
  refine (get_no _ _ _ _ w0' (by omega)).mono ?_
  rintro e w1 ⟨rfl, rfl⟩
  go_wp2_with fail
  refine (get_no _ _ _ _ w0' (by omega)).mono ?_
  rintro e w1 ⟨rfl, rfl⟩
  go_wp2_with fail
  refine (set_no1 _ _ _ _ _ w0' (by omega)).mono ?_
  rintro e w1 ⟨rfl, rfl⟩
  go_wp2_with fail
  refine (set_no1 _ _ _ _ _ w0' (by omega)).mono ?_
  rintro e w2 ⟨rfl, rfl⟩
  go_wp2_with fail
  refine (put_no _ _ _ (by omega)).mono ?_
  rintro e w1 ⟨rfl, rfl⟩
  go_wp2_with fail
  refine (put3_no _ _ (by omega) (by omega)).mono ?_
  rintro e w1 ⟨rfl, rfl⟩
  go_wp2_with fail
  go_ret
  exact ⟨rfl, hg1⟩

set_option maxHeartbeats 1000000 in
theorem walk4l (a0 : ByteArray) (a1 a2 : Int) (w0 : a0.size ≤ maxLen) (b0 : 0 ≤ a2) (b1 : a2 ≤ 4294967295) (c0 : 0 ≤ a1) (c1 : a1 ≤ 255) (hk : a1 % 4 = 3) (hl : (4 : Int) ≤ a0.size) (w : World) :
    Calls Try.prog 5 #[.string a0, .int .u8 a1, .int .u32 a2] w fun e w' => e = .returned (.bool true) ∧ Grown w w' := by
  have w0' := w0
  unfold maxLen at w0
  have hand : bits .and .i64 a2 4294967295 = a2 % 4294967296 := Oct.and_4 a2 b0 b1
  go_enter Try.func5, Try.ntmps5
  go_wp2_with fail
  refine (examples_ok _).mono ?_
  rintro e w1 ⟨rfl, hg1⟩
  go_wp2_with fail
  refine (get_no _ _ _ _ w0' (by omega)).mono ?_
  rintro e w1 ⟨rfl, rfl⟩
  go_wp2_with fail
  refine (get_no _ _ _ _ w0' (by omega)).mono ?_
  rintro e w1 ⟨rfl, rfl⟩
  go_wp2_with fail
  refine (get_no _ _ _ _ w0' (by omega)).mono ?_
  rintro e w1 ⟨rfl, rfl⟩
  go_wp2_with fail
  refine (get_no _ _ _ _ w0' (by omega)).mono ?_
  rintro e w1 ⟨rfl, rfl⟩
  go_wp2_with fail
  refine (set_no1 _ _ _ _ _ w0' (by omega)).mono ?_
  rintro e w1 ⟨rfl, rfl⟩
  go_wp2_with fail
  refine (set_yes _ _ _ _ _ w0' (by omega) (by omega) (by omega) (by omega) (by omega) (by rw [show (4 : Int).toNat = 4 from rfl]; omega)).mono ?_
  rintro e w2 ⟨rfl, hg2⟩
  go_wp2_with fail
  refine (put_no _ _ _ (by omega)).mono ?_
  rintro e w1 ⟨rfl, rfl⟩
  go_wp2_with fail
  refine (put4_no _ _ (by omega) (by omega)).mono ?_
  rintro e w1 ⟨rfl, rfl⟩
  go_wp2_with fail
  go_ret
  exact ⟨rfl, Oct.grown_trans hg1 hg2⟩

set_option maxHeartbeats 1000000 in
theorem walk4s (a0 : ByteArray) (a1 a2 : Int) (w0 : a0.size ≤ maxLen) (b0 : 0 ≤ a2) (b1 : a2 ≤ 4294967295) (c0 : 0 ≤ a1) (c1 : a1 ≤ 255) (hk : a1 % 4 = 3) (hl : (a0.size : Int) < 4) (w : World) :
    Calls Try.prog 5 #[.string a0, .int .u8 a1, .int .u32 a2] w fun e w' => e = .returned (.bool true) ∧ Grown w w' := by
  have w0' := w0
  unfold maxLen at w0
  have hd : decide ((4 : Int) ≤ a0.size) = false := by simp; omega
  have hand : bits .and .i64 a2 4294967295 = a2 % 4294967296 := Oct.and_4 a2 b0 b1
  go_enter Try.func5, Try.ntmps5
  go_wp2_with fail
  refine (examples_ok _).mono ?_
  rintro e w1 ⟨rfl, hg1⟩
  go_wp2_with fail
  refine (get_no _ _ _ _ w0' (by omega)).mono ?_
  rintro e w1 ⟨rfl, rfl⟩
  go_wp2_with fail
  refine (get_no _ _ _ _ w0' (by omega)).mono ?_
  rintro e w1 ⟨rfl, rfl⟩
  go_wp2_with fail
  refine (get_no _ _ _ _ w0' (by omega)).mono ?_
  rintro e w1 ⟨rfl, rfl⟩
  go_wp2_with fail
  refine (get_no _ _ _ _ w0' (by omega)).mono ?_
  rintro e w1 ⟨rfl, rfl⟩
  go_wp2_with fail
  refine (set_no1 _ _ _ _ _ w0' (by omega)).mono ?_
  rintro e w1 ⟨rfl, rfl⟩
  go_wp2_with fail
  refine (set_no1 _ _ _ _ _ w0' (by omega)).mono ?_
  rintro e w2 ⟨rfl, rfl⟩
  go_wp2_with fail
  refine (put_no _ _ _ (by omega)).mono ?_
  rintro e w1 ⟨rfl, rfl⟩
  go_wp2_with fail
  refine (put4_no _ _ (by omega) (by omega)).mono ?_
  rintro e w1 ⟨rfl, rfl⟩
  go_wp2_with fail
  go_ret
  exact ⟨rfl, hg1⟩

set_option maxHeartbeats 1000000 in
theorem walk (a0 : ByteArray) (a1 : Int) (a2 : Int) (w0 : a0.size ≤ maxLen) (w1 : (Lit.int .u8 a1).wf = true) (w2 : (Lit.int .u32 a2).wf = true) (w : World) :
    Calls Try.prog 5 #[.string a0, .int .u8 a1, .int .u32 a2] w fun e w' => e = .returned (.bool true) ∧ Grown w w' := by
  have b0 : 0 ≤ a2 := (bounds_u32 w2).1
  have b1 : a2 ≤ 4294967295 := (bounds_u32 w2).2
  have c0 : 0 ≤ a1 := (bounds_u8 w1).1
  have c1 : a1 ≤ 255 := (bounds_u8 w1).2
  have hk : a1 % 4 = 0 ∨ a1 % 4 = 1 ∨ a1 % 4 = 2 ∨ a1 % 4 = 3 := by omega
  rcases hk with hk | hk | hk | hk
  · by_cases hl : (1 : Int) ≤ a0.size
    · exact walk1l a0 a1 a2 w0 b0 b1 c0 c1 hk hl w
    · exact walk1s a0 a1 a2 w0 b0 b1 c0 c1 hk (by omega) w
  · by_cases hl : (2 : Int) ≤ a0.size
    · exact walk2l a0 a1 a2 w0 b0 b1 c0 c1 hk hl w
    · exact walk2s a0 a1 a2 w0 b0 b1 c0 c1 hk (by omega) w
  · by_cases hl : (3 : Int) ≤ a0.size
    · exact walk3l a0 a1 a2 w0 b0 b1 c0 c1 hk hl w
    · exact walk3s a0 a1 a2 w0 b0 b1 c0 c1 hk (by omega) w
  · by_cases hl : (4 : Int) ≤ a0.size
    · exact walk4l a0 a1 a2 w0 b0 b1 c0 c1 hk hl w
    · exact walk4s a0 a1 a2 w0 b0 b1 c0 c1 hk (by omega) w

/-! ### THE ROW's STEP: WRITTEN OUT: LEAVE IT -/
set_option maxRecDepth 100000 in
theorem lifted (os : Os) (started : os.Started) (H : Type) (enc : TypeId × Value → H) :
    ReturnsInHanded {} Try.checked os 5 .any (Rows.octetEndsSpec.pre6 enc Try.prog Try.f5 Rows.octetEndsRow.domain false) (Rows.octetEndsSpec.post enc Try.prog Try.f5 false true false false) := by
  refine returnsInHanded_of_change (C := Try.checked) own started (by kernel_rfl) Try.func5
    (ChangeSpec.witness6 (enc := enc) (C := Try.checked) false ⟨#[], #[.string ByteArray.empty, .int .u8 0, .int .u32 0], []⟩ 8 (by kernel_rfl) (by kernel_rfl) (by kernel_rfl) (by kernel_rfl)) ?_
  intro W base args ds gs before hval0 hW hcnd _
  have hval : ∀ (j : Nat) t v, Try.f5.params[j]? = some t → args[j]? = some v → Value.okWide Try.prog W .any base t v := hval0
  have hW' := hW
  obtain ⟨p, q, hA0, hV, rfl, hfz, hnd⟩ := hW
  have hA : DataW.TrodAll enc Try.prog W 0 (fun _ => true) true Try.f5.params.toList args.toList ds p := hA0
  rw [Try.params5] at hA hval
  obtain ⟨v0, vs0, d0, ds0, p0, q0, hargs, rfl, rfl, h0, r0⟩ := trodAll_cons hA
  obtain ⟨v1, vs1, d1, ds1, p1, q1, rfl, rfl, rfl, h1, r1⟩ := trodAll_cons r0
  obtain ⟨v2, vs2, d2, ds2, p2, q2, rfl, rfl, rfl, h2, r2⟩ := trodAll_cons r1
  obtain ⟨rfl, rfl, rfl⟩ := trodAll_nil r2
  obtain rfl : args = #[v0, v1, v2] := by cases args; simp_all
  obtain ⟨rfl, rfl⟩ := trodVars_none hV
  obtain ⟨a0, rfl, rfl, rfl, w0⟩ := open_string Try.underlying9 (hval 0 9 v0 rfl rfl) h0
  obtain ⟨a1, rfl, rfl, rfl, w1⟩ := open_int Try.underlying5 (hval 1 5 v1 rfl rfl) h1
  obtain ⟨a2, rfl, rfl, rfl, w2⟩ := open_int Try.underlying29 (hval 2 29 v2 rfl rfl) h2
  clear hA0 hval0
  simp only [List.append_nil] at hW'
  refine (walk a0 a1 a2 w0 w1 w2 W).mono fun e W' ⟨he, hg⟩ => ?_
  subst he
  exact ⟨_, rfl, post_of_same (pa := []) (pv := []) hW' (fun _ _ _ => (trodAll_cons_mk (shut_bool Try.underlying4 _) trodAll_mk0)) (fun sp _ => (trodAll_cons_mk (shut_string Try.underlying9 w0) (trodAll_cons_mk (shut_int Try.underlying5 w1) (trodAll_cons_mk (shut_int Try.underlying29 w2) trodAll_mk0)))) (fun _ _ => rfl) rfl
    (hg.frame _) hg.2.1 (ok_one (by kernel_rfl) rfl (okWide_bool_mk Try.underlying4 _))⟩

theorem over : Rows.octetEndsRow.holds Try.pinned (OpenSpec.ofChange Rows.octetEndsSpec) :=
  OpenClaim.holds_of_wide 5 Try.f5 rfl rfl rfl rfl rfl rfl rfl ⟨rfl, rfl, rfl, rfl, rfl⟩ rfl rfl rfl rfl rfl (by kernel_rfl) Try.func5 (by kernel_rfl)
    (of_decide_eq_true (by kernel_rfl)) (by unfold Func.isWrapper; first | (rw [if_pos (by decide +kernel)]; kernel_rfl) | (rw [if_neg (by decide +kernel)]; exact ⟨rfl, rfl⟩))
    (fun os started H enc _ => lifted os started H enc)

/-- ████ THE STATEMENT ████ -/
theorem proved : Rows.OctetEndsSaid :=
  over
#print axioms proved
end Go.Proofs.Ytpjjmioccgolcaa.octetEnds
