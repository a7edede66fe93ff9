/- AddrMasks answers true for all numbers a and b of 8 bits and every int, and changes nothing that was there before; the library's variables are as the program's text lays them (the card ties that). -/
import Derived.Test.YtnnhkjjnolhaoaaDoorAdLaid
import Derived.Test.YtnnhkjjnolhaoaaDoorAdEx
namespace Go.Proofs.YtnnhkjjnolhaoaaDoor.addrMasks
open Go.ChangeShapes Go.WideShapes Go.ChangeAt Go.RowKit
open Go.ChangeMaps (open_string shut_string)
set_option linter.unusedVariables false
theorem msk_facts : ∀ x y : Fin 33, bits .and .u32 (Ad.msk (min (x.val : Int) y.val)) (Ad.msk (max (x.val : Int) y.val)) = Ad.msk (min (x.val : Int) y.val) ∧ (x ≠ y → (Ad.msk (min (x.val : Int) y.val) == Ad.msk (max (x.val : Int) y.val)) = false) := by decide +kernel
theorem msk_and (x y : Int) (h0 : 0 ≤ x) (h1 : x < 33) (k0 : 0 ≤ y) (k1 : y < 33) : bits .and .u32 (Ad.msk (min x y)) (Ad.msk (max x y)) = Ad.msk (min x y) := by
  have := (msk_facts ⟨x.toNat, by omega⟩ ⟨y.toNat, by omega⟩).1
  simpa [Int.toNat_of_nonneg h0, Int.toNat_of_nonneg k0] using this
theorem msk_ne (x y : Int) (h0 : 0 ≤ x) (h1 : x < 33) (k0 : 0 ≤ y) (k1 : y < 33) (h : x ≠ y) : (Ad.msk (min x y) == Ad.msk (max x y)) = false := by
  have := (msk_facts ⟨x.toNat, by omega⟩ ⟨y.toNat, by omega⟩).2 (by intro e; injection e; omega)
  simpa [Int.toNat_of_nonneg h0, Int.toNat_of_nonneg k0] using this
theorem msk_zero : Ad.msk 0 = 0 := by decide +kernel
theorem msk_all : Ad.msk 32 = 4294967295 := by decide +kernel
set_option maxHeartbeats 1000000 in
set_option maxRecDepth 100000 in
theorem walk (a0 : Int) (a1 : Int) (a2 : Int) (w0 : (Lit.int .u8 a0).wf = true) (w1 : (Lit.int .u8 a1).wf = true) (w2 : (Lit.int .i64 a2).wf = true) (w : World) (hE : Env w) :
    Calls Tryd.prog 7 #[.int .u8 a0, .int .u8 a1, .int .i64 a2] w fun e w' => e = .returned (.bool true) ∧ Below w.heap.size w w' := by
  have b0 : 0 ≤ a0 := (bounds_u8 w0).1
  have b1 : a0 ≤ 255 := (bounds_u8 w0).2
  have c0 : 0 ≤ a1 := (bounds_u8 w1).1
  have c1 : a1 ≤ 255 := (bounds_u8 w1).2
  clear w0 w1 w2
  have hand := msk_and (a0 % 33) (a1 % 33) (by omega) (by omega) (by omega) (by omega)
  have z0 := msk_zero
  have z1 := msk_all
  have hq : ∃ q : Bool, (Ad.msk (min (a0 % 33) (a1 % 33)) == Ad.msk (max (a0 % 33) (a1 % 33))) = q ∧ (a0 % 33 == a1 % 33) = q := by
    by_cases h : a0 % 33 = a1 % 33
    · exact ⟨true, by rw [h]; simp, by simp [h]⟩
    · exact ⟨false, msk_ne _ _ (by omega) (by omega) (by omega) (by omega) h, by simp [h]⟩
  obtain ⟨q, hq1, hq2⟩ := hq
  have hc : a2 < 0 ∨ 32 < a2 ∨ (0 ≤ a2 ∧ a2 ≤ 32) := by omega
  rcases hc with h | h | h
  · skip
    cases q
    all_goals
      go_enter Tryd.func7, Tryd.ntmps7
      go_wp2_with fail
      refine (examples_ok _ hE).mono ?_
      rintro e w1 ⟨rfl, hb1⟩
      go_wp2_with fail
      refine (mask_yes _ _ (by omega) (by omega)).mono ?_
      rintro e w1 ⟨rfl, rfl⟩
      go_wp2_with fail
      refine (mask_yes _ _ (by omega) (by omega)).mono ?_
      rintro e w1 ⟨rfl, rfl⟩
      go_wp2_with fail
      refine (mask_yes _ _ (by omega) (by omega)).mono ?_
      rintro e w1 ⟨rfl, rfl⟩
      go_wp2_with fail
      refine (mask_yes _ _ (by omega) (by omega)).mono ?_
      rintro e w1 ⟨rfl, rfl⟩
      go_wp2_with fail
      refine (mask_no _ _ (by omega)).mono ?_
      rintro e w1 ⟨rfl, rfl⟩
      go_wp2_with fail
      go_ret
      exact ⟨rfl, hb1⟩
  · have h' : ¬ a2 < 0 := by omega
    have h3 : decide (a2 ≤ 32) = false := by simp; omega
    cases q
    all_goals
      go_enter Tryd.func7, Tryd.ntmps7
      go_wp2_with fail
      refine (examples_ok _ hE).mono ?_
      rintro e w1 ⟨rfl, hb1⟩
      go_wp2_with fail
      refine (mask_yes _ _ (by omega) (by omega)).mono ?_
      rintro e w1 ⟨rfl, rfl⟩
      go_wp2_with fail
      refine (mask_yes _ _ (by omega) (by omega)).mono ?_
      rintro e w1 ⟨rfl, rfl⟩
      go_wp2_with fail
      refine (mask_yes _ _ (by omega) (by omega)).mono ?_
      rintro e w1 ⟨rfl, rfl⟩
      go_wp2_with fail
      refine (mask_yes _ _ (by omega) (by omega)).mono ?_
      rintro e w1 ⟨rfl, rfl⟩
      go_wp2_with fail
      refine (mask_no _ _ (by omega)).mono ?_
      rintro e w1 ⟨rfl, rfl⟩
      go_wp2_with fail
      go_ret
      exact ⟨rfl, hb1⟩
  · obtain ⟨h1, h2⟩ := h
    cases q
    all_goals
      go_enter Tryd.func7, Tryd.ntmps7
      go_wp2_with fail
      refine (examples_ok _ hE).mono ?_
      rintro e w1 ⟨rfl, hb1⟩
      go_wp2_with fail
      refine (mask_yes _ _ (by omega) (by omega)).mono ?_
      rintro e w1 ⟨rfl, rfl⟩
      go_wp2_with fail
      refine (mask_yes _ _ (by omega) (by omega)).mono ?_
      rintro e w1 ⟨rfl, rfl⟩
      go_wp2_with fail
      refine (mask_yes _ _ (by omega) (by omega)).mono ?_
      rintro e w1 ⟨rfl, rfl⟩
      go_wp2_with fail
      refine (mask_yes _ _ (by omega) (by omega)).mono ?_
      rintro e w1 ⟨rfl, rfl⟩
      go_wp2_with fail
      refine (mask_yes _ _ (by omega) (by omega)).mono ?_
      rintro e w1 ⟨rfl, rfl⟩
      go_wp2_with fail
      go_ret
      exact ⟨rfl, hb1⟩

set_option maxRecDepth 100000 in
theorem lifted (os : Os) (started : os.Started) (H : Type) (enc : TypeId × Value → H) :
    ReturnsInHanded {} Tryd.checked os 7 .any (fun w args => (Rows.addrMasksSpec.pre enc Tryd.prog Tryd.f7 [] false w args ∧ laidMetH Tryd.prog Rows.addrMasksRow.laid w) ∧ sizedMet enc Tryd.prog Tryd.f7 (OpenSpec.ofChange Rows.addrMasksSpec) false w args)
      (Rows.addrMasksSpec.post enc Tryd.prog Tryd.f7 false true false false) := by
  refine returnsInHanded_of_change_and (C := Tryd.checked) (X := fun w _ => laidMetH Tryd.prog Rows.addrMasksRow.laid w) (fun _ _ _ hh h => h.of_heap hh) own started (by kernel_rfl) Tryd.func7
    (ChangeSpec.witness_shaped (enc := enc) (C := Tryd.checked) (os := os) (X := fun w _ => laidMetH Tryd.prog Rows.addrMasksRow.laid w) false (World.laidAll Tryd.prog os Rows.addrTextsRow.laid) #[.int .u8 0, .int .u8 0, .int .i64 0] 8 (World.laidAll_os _ _ _)
      (laid_shaped os) (by kernel_rfl) (by kernel_rfl) (by kernel_rfl) (laid_met os _)) ?_
  intro W base args ds gs before hval0 hW _ hsz hL _
  have hval : ∀ (j : Nat) t v, Tryd.f7.params[j]? = some t → args[j]? = some v → Value.okWide Tryd.prog W .any base t v := hval0
  have hW' := hW
  obtain ⟨p, q, hA0, hV, rfl, hfz, hnd⟩ := hW
  have hA : DataW.TrodAll enc Tryd.prog W 0 (fun _ => true) true Tryd.f7.params.toList args.toList ds p := hA0
  rw [Tryd.params7] at hA hval
  obtain ⟨v0, vs0, d0, ds0, p0, q0, hargs, rfl, rfl, h0, r0⟩ := trodAll_cons hA
  obtain ⟨v1, vs1, d1, ds1, p1, q1, rfl, rfl, rfl, h1, r1⟩ := trodAll_cons r0
  obtain ⟨v2, vs2, d2, ds2, p2, q2, rfl, rfl, rfl, h2, r2⟩ := trodAll_cons r1
  obtain ⟨rfl, rfl, rfl⟩ := trodAll_nil r2
  obtain rfl : args = #[v0, v1, v2] := by cases args; simp_all
  obtain ⟨rfl, rfl⟩ := trodVars_none hV
  obtain ⟨a0, rfl, rfl, rfl, w0⟩ := open_int Tryd.underlying5 (hval 0 5 v0 rfl rfl) h0
  obtain ⟨a1, rfl, rfl, rfl, w1⟩ := open_int Tryd.underlying5 (hval 1 5 v1 rfl rfl) h1
  obtain ⟨a2, rfl, rfl, rfl, w2⟩ := open_int Tryd.underlying3 (hval 2 3 v2 rfl rfl) h2
  simp only [List.append_nil] at hW'
  refine (walk a0 a1 a2 w0 w1 w2 W (env_of hL)).mono fun e W' ⟨he, hb⟩ => ?_
  subst he
  exact ⟨_, rfl, _, _, _, [], [], [], hW', (trodAll_cons_mk (shut_bool Tryd.underlying4 _) trodAll_mk0), (trodAll_cons_mk (shut_int Tryd.underlying5 w0) (trodAll_cons_mk (shut_int Tryd.underlying5 w1) (trodAll_cons_mk (shut_int Tryd.underlying3 w2) trodAll_mk0))), rfl, hb.frame _, fun h => by cases h⟩

theorem over : Rows.addrMasksRow.holds Tryd.pinned (OpenSpec.ofChange Rows.addrMasksSpec) :=
  OpenClaim.holds_of_wide 7 Tryd.f7 rfl rfl rfl rfl rfl rfl rfl ⟨rfl, rfl, rfl, rfl, rfl⟩ rfl rfl rfl rfl rfl (by kernel_rfl) Tryd.func7 (by kernel_rfl)
    (of_decide_eq_true (by kernel_rfl)) (by unfold Func.isWrapper; first | (rw [if_pos (by decide +kernel)]; kernel_rfl) | (rw [if_neg (by decide +kernel)]; exact ⟨rfl, rfl⟩))
    (fun os started H enc _ => lifted os started H enc)

theorem proved : Rows.AddrMasksCardSaid :=
  Claim7.holds_tied_plain_at .later [] [.data, .data, .data, .data, .sentinel, .sentinel, .pinned] true (true, "175afbf1b3771384037ba59ab58552f86875b3316abe2b1edeec32f6b76d1a09") true over (fun _ h => by cases h) (by kernel_rfl) (fun _ h => by cases h) addrMasks_row_tie rfl ⟨rfl, rfl⟩ (by kernel_rfl) rfl
    (fun f fn hf hfn => by
      obtain rfl : f = 7 := Option.some.inj ((show Tryd.prog.funcNamed Rows.addrMasksRow.func = some 7 by kernel_rfl).symm.trans hf) |>.symm
      obtain rfl : fn = Tryd.f7 := (Option.some.inj (Tryd.func7.symm.trans hfn)).symm
      exact ⟨by kernel_rfl, fun j t ht => by
        rw [Tryd.params7] at ht
        have hm : t ∈ [5, 5, 3] := by simpa using Array.mem_of_getElem? ht
        have hall : ([5, 5, 3].all fun u => !Tryd.prog.wantsStandIn u) = true := by kernel_rfl
        exact (show Tryd.prog.wantsStandIn t = false by simpa using List.all_eq_true.1 hall t hm)⟩)
    (by kernel_rfl)
#print axioms proved
end Go.Proofs.YtnnhkjjnolhaoaaDoor.addrMasks
