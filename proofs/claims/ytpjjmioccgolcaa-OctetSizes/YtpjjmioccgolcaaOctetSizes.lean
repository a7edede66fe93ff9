/- OctetSizes answers true for every n of 32 bits and every size of 8 bits, and changes nothing that was there before; no condition. -/
import Derived.Test.YtpjjmioccgolcaaRows
import Derived.Test.YtpjjmioccgolcaaLaw
import Derived.WalkKit
import Derived.ProofKit
import Derived.OpenShut
import Derived.ShutString
namespace Go.Proofs.Ytpjjmioccgolcaa.octetSizes
open Go.ChangeShapes Go.WideShapes Go.ChangeAt Go.RowKit
open Go.ChangeMaps (open_string shut_string)
set_option linter.unusedVariables false      -- a walk need not use every 'w<i>' (that an integer argument fits its kind)

theorem own : ownKnob Try.prog.godebug = none := by kernel_rfl

/-! ### STEP 1: THE WALK: the Go text returns true. 'Grown w w'': the world has at most new blocks (Derived/RowKit3.lean). Part the cases AHEAD of 'go_enter' where a test parts the walk; take each callee by a contract of your own. -/
theorem get_hi (n : Int) (w : World) (h0 : 0 ≤ n) (h1 : n < 4294967296) :
    Calls Try.prog 8 #[.string ⟨(Oct.be 4 n.toNat).toArray⟩, .int .i64 0, .int .i64 2] w fun e w' => e = .returned (.tuple #[.int .i64 (n / 65536), .bool true]) ∧ w' = w := by
  have hz := Oct.mk_size (Oct.be 4 n.toNat)
  rw [Oct.be_length] at hz
  refine (get_yes _ 0 2 w (by rw [hz]; decide) (by decide) (by decide) (by decide) (by rw [hz]; decide)).mono ?_
  rintro e w' ⟨rfl, rfl⟩
  exact ⟨Oct.ret_ib (Oct.num_hi n h0 h1), rfl⟩
theorem get_lo (n : Int) (w : World) (h0 : 0 ≤ n) :
    Calls Try.prog 8 #[.string ⟨(Oct.be 4 n.toNat).toArray⟩, .int .i64 2, .int .i64 2] w fun e w' => e = .returned (.tuple #[.int .i64 (n % 65536), .bool true]) ∧ w' = w := by
  have hz := Oct.mk_size (Oct.be 4 n.toNat)
  rw [Oct.be_length] at hz
  refine (get_yes _ 2 2 w (by rw [hz]; decide) (by decide) (by decide) (by decide) (by rw [hz]; decide)).mono ?_
  rintro e w' ⟨rfl, rfl⟩
  exact ⟨Oct.ret_ib (Oct.num_lo n h0), rfl⟩

theorem some_put (k n : Int) (w : World) (h1 : 1 ≤ k) (h2 : k ≤ 4) (h0 : 0 ≤ n) :
    Calls Try.prog 12 #[.int .i64 k, .int .i64 n] w fun e w' => (∃ s, e = .returned (.tuple #[.string s, .bool (decide (n < 256 ^ k.toNat))])) ∧ Grown w w' := by
  have hc : (n < 256 ^ k.toNat) ↔ n.toNat < 256 ^ k.toNat := by
    obtain ⟨m, rfl⟩ := Int.eq_ofNat_of_zero_le h0
    rw [Int.toNat_natCast]
    have : ((256 : Int) ^ k.toNat) = ((256 ^ k.toNat : Nat) : Int) := by simp
    rw [this]; omega
  by_cases h : n.toNat < 256 ^ k.toNat
  · refine (put_yes k n w h1 h2 h0 h).mono ?_
    rintro e w' ⟨rfl, hg⟩
    exact ⟨⟨_, by rw [decide_eq_true (hc.2 h)]⟩, hg⟩
  · refine (put_no k n w (by intro hh; exact h hh.2.2)).mono ?_
    rintro e w' ⟨rfl, rfl⟩
    exact ⟨⟨_, by rw [decide_eq_false (fun hh => h (hc.1 hh))]⟩, Grown.refl _⟩

set_option maxHeartbeats 1000000 in
theorem walk (a0 : Int) (a1 : Int) (w0 : (Lit.int .u32 a0).wf = true) (w1 : (Lit.int .u8 a1).wf = true) (w : World) :
    Calls Try.prog 4 #[.int .u32 a0, .int .u8 a1] w fun e w' => e = .returned (.bool true) ∧ Grown w w' := by
  have b0 : 0 ≤ a0 := (bounds_u32 w0).1
  have b1 : a0 ≤ 4294967295 := (bounds_u32 w0).2
  have c0 : 0 ≤ a1 := (bounds_u8 w1).1
  have c1 : a1 ≤ 255 := (bounds_u8 w1).2
  have hor : bits .or .i64 (a0 / 65536 * 65536) (a0 % 65536) = a0 := Oct.or_half a0 b0 b1
  clear w0 w1
  have hk : a1 % 4 = 0 ∨ a1 % 4 = 1 ∨ a1 % 4 = 2 ∨ a1 % 4 = 3 := by omega
  rcases hk with hk1 | hk2 | hk3 | hk4
  · have hk : a1 % 4 = 0 := hk1
    have hp := some_put 1 a0
    have HP : Hid (∀ (w : World), 1 ≤ (1 : Int) → (1 : Int) ≤ 4 → 0 ≤ a0 → Calls Try.prog 12 #[.int .i64 1, .int .i64 a0] w fun e w' => (∃ s, e = .returned (.tuple #[.string s, .bool (decide (a0 < 256))])) ∧ Grown w w') := hp
    clear hp
    go_enter Try.func4, Try.ntmps4
    go_wp2_with fail
    refine (examples_ok _).mono ?_
    rintro e w1 ⟨rfl, hg1⟩
    go_wp2_with fail
    refine (HP.out _ (by omega) (by omega) b0).mono ?_
    rintro e w2 ⟨⟨s, rfl⟩, hg2⟩
    go_wp2_with fail
    refine (put4 _ _ b0 (by omega)).mono ?_
    rintro e w3 ⟨rfl, hg3⟩
    go_wp2_with fail
    refine (get_hi _ _ b0 (by omega)).mono ?_
    rintro e w4 ⟨rfl, rfl⟩
    go_wp2_with fail
    refine (get_lo _ _ b0).mono ?_
    rintro e w4 ⟨rfl, rfl⟩
    go_wp2_with fail
    go_ret
    exact ⟨rfl, Oct.grown_trans (Oct.grown_trans hg1 hg2) hg3⟩
  · have hk : a1 % 4 = 1 := hk2
    have hp := some_put 2 a0
    have HP : Hid (∀ (w : World), 1 ≤ (2 : Int) → (2 : Int) ≤ 4 → 0 ≤ a0 → Calls Try.prog 12 #[.int .i64 2, .int .i64 a0] w fun e w' => (∃ s, e = .returned (.tuple #[.string s, .bool (decide (a0 < 65536))])) ∧ Grown w w') := hp
    clear hp
    go_enter Try.func4, Try.ntmps4
    go_wp2_with fail
    refine (examples_ok _).mono ?_
    rintro e w1 ⟨rfl, hg1⟩
    go_wp2_with fail
    refine (HP.out _ (by omega) (by omega) b0).mono ?_
    rintro e w2 ⟨⟨s, rfl⟩, hg2⟩
    go_wp2_with fail
    refine (put4 _ _ b0 (by omega)).mono ?_
    rintro e w3 ⟨rfl, hg3⟩
    go_wp2_with fail
    refine (get_hi _ _ b0 (by omega)).mono ?_
    rintro e w4 ⟨rfl, rfl⟩
    go_wp2_with fail
    refine (get_lo _ _ b0).mono ?_
    rintro e w4 ⟨rfl, rfl⟩
    go_wp2_with fail
    go_ret
    exact ⟨rfl, Oct.grown_trans (Oct.grown_trans hg1 hg2) hg3⟩
  · have hk : a1 % 4 = 2 := hk3
    have hp := some_put 3 a0
    have HP : Hid (∀ (w : World), 1 ≤ (3 : Int) → (3 : Int) ≤ 4 → 0 ≤ a0 → Calls Try.prog 12 #[.int .i64 3, .int .i64 a0] w fun e w' => (∃ s, e = .returned (.tuple #[.string s, .bool (decide (a0 < 16777216))])) ∧ Grown w w') := hp
    clear hp
    go_enter Try.func4, Try.ntmps4
    go_wp2_with fail
    refine (examples_ok _).mono ?_
    rintro e w1 ⟨rfl, hg1⟩
    go_wp2_with fail
    refine (HP.out _ (by omega) (by omega) b0).mono ?_
    rintro e w2 ⟨⟨s, rfl⟩, hg2⟩
    go_wp2_with fail
    refine (put4 _ _ b0 (by omega)).mono ?_
    rintro e w3 ⟨rfl, hg3⟩
    go_wp2_with fail
    refine (get_hi _ _ b0 (by omega)).mono ?_
    rintro e w4 ⟨rfl, rfl⟩
    go_wp2_with fail
    refine (get_lo _ _ b0).mono ?_
    rintro e w4 ⟨rfl, rfl⟩
    go_wp2_with fail
    go_ret
    exact ⟨rfl, Oct.grown_trans (Oct.grown_trans hg1 hg2) hg3⟩
  · have hk : a1 % 4 = 3 := hk4
    have hp := some_put 4 a0
    have HP : Hid (∀ (w : World), 1 ≤ (4 : Int) → (4 : Int) ≤ 4 → 0 ≤ a0 → Calls Try.prog 12 #[.int .i64 4, .int .i64 a0] w fun e w' => (∃ s, e = .returned (.tuple #[.string s, .bool (decide (a0 < 4294967296))])) ∧ Grown w w') := hp
    clear hp
    go_enter Try.func4, Try.ntmps4
    go_wp2_with fail
    refine (examples_ok _).mono ?_
    rintro e w1 ⟨rfl, hg1⟩
    go_wp2_with fail
    refine (HP.out _ (by omega) (by omega) b0).mono ?_
    rintro e w2 ⟨⟨s, rfl⟩, hg2⟩
    go_wp2_with fail
    refine (put4 _ _ b0 (by omega)).mono ?_
    rintro e w3 ⟨rfl, hg3⟩
    go_wp2_with fail
    refine (get_hi _ _ b0 (by omega)).mono ?_
    rintro e w4 ⟨rfl, rfl⟩
    go_wp2_with fail
    refine (get_lo _ _ b0).mono ?_
    rintro e w4 ⟨rfl, rfl⟩
    go_wp2_with fail
    go_ret
    exact ⟨rfl, Oct.grown_trans (Oct.grown_trans hg1 hg2) hg3⟩

/-! ### THE ROW's STEP: WRITTEN OUT: LEAVE IT -/
set_option maxRecDepth 100000 in
theorem lifted (os : Os) (started : os.Started) (H : Type) (enc : TypeId × Value → H) :
    ReturnsInHanded {} Try.checked os 4 .any (Rows.octetSizesSpec.pre6 enc Try.prog Try.f4 Rows.octetSizesRow.domain false) (Rows.octetSizesSpec.post enc Try.prog Try.f4 false true false false) := by
  refine returnsInHanded_of_change (C := Try.checked) own started (by kernel_rfl) Try.func4
    (ChangeSpec.witness6 (enc := enc) (C := Try.checked) false ⟨#[], #[.int .u32 0, .int .u8 0], []⟩ 8 (by kernel_rfl) (by kernel_rfl) (by kernel_rfl) (by kernel_rfl)) ?_
  intro W base args ds gs before hval0 hW hcnd _
  have hval : ∀ (j : Nat) t v, Try.f4.params[j]? = some t → args[j]? = some v → Value.okWide Try.prog W .any base t v := hval0
  have hW' := hW
  obtain ⟨p, q, hA0, hV, rfl, hfz, hnd⟩ := hW
  have hA : DataW.TrodAll enc Try.prog W 0 (fun _ => true) true Try.f4.params.toList args.toList ds p := hA0
  rw [Try.params4] at hA hval
  obtain ⟨v0, vs0, d0, ds0, p0, q0, hargs, rfl, rfl, h0, r0⟩ := trodAll_cons hA
  obtain ⟨v1, vs1, d1, ds1, p1, q1, rfl, rfl, rfl, h1, r1⟩ := trodAll_cons r0
  obtain ⟨rfl, rfl, rfl⟩ := trodAll_nil r1
  obtain rfl : args = #[v0, v1] := by cases args; simp_all
  obtain ⟨rfl, rfl⟩ := trodVars_none hV
  obtain ⟨a0, rfl, rfl, rfl, w0⟩ := open_int Try.underlying29 (hval 0 29 v0 rfl rfl) h0
  obtain ⟨a1, rfl, rfl, rfl, w1⟩ := open_int Try.underlying5 (hval 1 5 v1 rfl rfl) h1
  clear hA0 hval0
  simp only [List.append_nil] at hW'
  refine (walk a0 a1 w0 w1 W).mono fun e W' ⟨he, hg⟩ => ?_
  subst he
  exact ⟨_, rfl, post_of_same (pa := []) (pv := []) hW' (fun _ _ _ => (trodAll_cons_mk (shut_bool Try.underlying4 _) trodAll_mk0)) (fun sp _ => (trodAll_cons_mk (shut_int Try.underlying29 w0) (trodAll_cons_mk (shut_int Try.underlying5 w1) trodAll_mk0))) (fun _ _ => rfl) rfl
    (hg.frame _) hg.2.1 (ok_one (by kernel_rfl) rfl (okWide_bool_mk Try.underlying4 _))⟩

theorem over : Rows.octetSizesRow.holds Try.pinned (OpenSpec.ofChange Rows.octetSizesSpec) :=
  OpenClaim.holds_of_wide 4 Try.f4 rfl rfl rfl rfl rfl rfl rfl ⟨rfl, rfl, rfl, rfl, rfl⟩ rfl rfl rfl rfl rfl (by kernel_rfl) Try.func4 (by kernel_rfl)
    (of_decide_eq_true (by kernel_rfl)) (by unfold Func.isWrapper; first | (rw [if_pos (by decide +kernel)]; kernel_rfl) | (rw [if_neg (by decide +kernel)]; exact ⟨rfl, rfl⟩))
    (fun os started H enc _ => lifted os started H enc)

/-- ████ THE STATEMENT ████ -/
theorem proved : Rows.OctetSizesSaid :=
  over
#print axioms proved
end Go.Proofs.Ytpjjmioccgolcaa.octetSizes
