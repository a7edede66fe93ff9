/- AddrTexts answers true for every address and every text, and changes nothing that was there before; the library's variables are as the program's text lays them (the card ties that). -/
import Derived.Test.YtnnhkjjnolhaoaaDoorAdLaid
import Derived.Test.YtnnhkjjnolhaoaaDoorAdEx
import Derived.Test.YtnnhkjjnolhaoaaDoorAdRef
namespace Go.Proofs.YtnnhkjjnolhaoaaDoor.addrTexts
open Go.ChangeShapes Go.WideShapes Go.ChangeAt Go.RowKit
open Go.ChangeMaps (open_string shut_string)
set_option linter.unusedVariables false
set_option maxHeartbeats 1000000 in
set_option maxRecDepth 100000 in
theorem walk_yes (a0 : Int) (a1 : ByteArray) (w : World) (hE : Env w) (b0 : 0 ≤ a0) (b1 : a0 ≤ 4294967295) (z1 : a1.size ≤ 140737488355328) (h : Ad.IsAddr a1.data.toList) :
    Calls Tryd.prog 3 #[.int .u32 a0, .string a1] w fun e w' => e = .returned (.bool true) ∧ Below w.heap.size w w' := by
  go_enter Tryd.func3, Tryd.ntmps3
  go_wp2_with fail
  refine (examples_ok _ hE).mono ?_
  rintro e w1 ⟨rfl, hb1⟩
  have B1 := hide hb1
  go_wp2_with fail
  refine (parse_yes a1 _ z1 (hE.on (unhide B1)) h).mono ?_
  rintro e w2 ⟨rfl, hb2⟩
  have B2 := hide (Below.then (unhide B1) hb2)
  go_wp2_with fail
  refine (rparse_yes a1 _ z1 h).mono ?_
  rintro e w3 ⟨rfl, hb3⟩
  have B3 := hide (Below.then (unhide B2) hb3)
  clear hb1 hb2 hb3
  go_wp2_with fail
  refine (text_any a0 _ b0 b1 (hE.on (unhide B3))).mono ?_
  rintro e w4 ⟨rfl, hb4⟩
  have B4 := hide (Below.then (unhide B3) hb4)
  go_wp2_with fail
  refine (rtext a0 _ b0 b1).mono ?_
  rintro e w5 ⟨rfl, hb5⟩
  have B5 := hide (Below.then (unhide B4) hb5)
  go_wp2_with fail
  go_ret
  exact ⟨rfl, unhide B5⟩
set_option maxHeartbeats 1000000 in
set_option maxRecDepth 100000 in
theorem walk_no (a0 : Int) (a1 : ByteArray) (w : World) (hE : Env w) (b0 : 0 ≤ a0) (b1 : a0 ≤ 4294967295) (z1 : a1.size ≤ 140737488355328) (h : ¬ Ad.IsAddr a1.data.toList) :
    Calls Tryd.prog 3 #[.int .u32 a0, .string a1] w fun e w' => e = .returned (.bool true) ∧ Below w.heap.size w w' := by
  go_enter Tryd.func3, Tryd.ntmps3
  go_wp2_with fail
  refine (examples_ok _ hE).mono ?_
  rintro e w1 ⟨rfl, hb1⟩
  have B1 := hide hb1
  go_wp2_with fail
  refine (parse_no a1 _ z1 (hE.on (unhide B1)) h).mono ?_
  rintro e w2 ⟨rfl, hb2⟩
  have B2 := hide (Below.then (unhide B1) hb2)
  go_wp2_with fail
  refine (rparse_no a1 _ z1 h).mono ?_
  rintro e w3 ⟨rfl, hb3⟩
  have B3 := hide (Below.then (unhide B2) hb3)
  clear hb1 hb2 hb3
  go_wp2_with fail
  refine (text_any a0 _ b0 b1 (hE.on (unhide B3))).mono ?_
  rintro e w4 ⟨rfl, hb4⟩
  have B4 := hide (Below.then (unhide B3) hb4)
  go_wp2_with fail
  refine (rtext a0 _ b0 b1).mono ?_
  rintro e w5 ⟨rfl, hb5⟩
  have B5 := hide (Below.then (unhide B4) hb5)
  go_wp2_with fail
  go_ret
  exact ⟨rfl, unhide B5⟩
set_option maxHeartbeats 1000000 in
set_option maxRecDepth 100000 in
theorem walk (a0 : Int) (a1 : ByteArray) (w0 : (Lit.int .u32 a0).wf = true) (z1 : a1.size ≤ 140737488355328) (w : World) (hE : Env w) :
    Calls Tryd.prog 3 #[.int .u32 a0, .string a1] w fun e w' => e = .returned (.bool true) ∧ Below w.heap.size w w' := by
  have b0 : 0 ≤ a0 := (bounds_u32 w0).1
  have b1 : a0 ≤ 4294967295 := (bounds_u32 w0).2
  by_cases h : Ad.IsAddr a1.data.toList
  · exact walk_yes a0 a1 w hE b0 b1 z1 h
  · exact walk_no a0 a1 w hE b0 b1 z1 h

set_option maxRecDepth 100000 in
theorem lifted (os : Os) (started : os.Started) (H : Type) (enc : TypeId × Value → H) :
    ReturnsInHanded {} Tryd.checked os 3 .any (fun w args => (Rows.addrTextsSpec.pre enc Tryd.prog Tryd.f3 [] false w args ∧ laidMetH Tryd.prog Rows.addrTextsRow.laid w) ∧ sizedMet enc Tryd.prog Tryd.f3 (OpenSpec.ofChange Rows.addrTextsSpec) false w args)
      (Rows.addrTextsSpec.post enc Tryd.prog Tryd.f3 false true false false) := by
  refine returnsInHanded_of_change_and (C := Tryd.checked) (X := fun w _ => laidMetH Tryd.prog Rows.addrTextsRow.laid w) (fun _ _ _ hh h => h.of_heap hh) own started (by kernel_rfl) Tryd.func3
    (ChangeSpec.witness_shaped (enc := enc) (C := Tryd.checked) (os := os) (X := fun w _ => laidMetH Tryd.prog Rows.addrTextsRow.laid w) false (World.laidAll Tryd.prog os Rows.addrTextsRow.laid) #[.int .u32 0, .string ByteArray.empty] 8 (World.laidAll_os _ _ _)
      (laid_shaped os) (by kernel_rfl) (by kernel_rfl) (by kernel_rfl) (laid_met os _)) ?_
  intro W base args ds gs before hval0 hW _ hsz hL _
  have hval : ∀ (j : Nat) t v, Tryd.f3.params[j]? = some t → args[j]? = some v → Value.okWide Tryd.prog W .any base t v := hval0
  have hW' := hW
  obtain ⟨p, q, hA0, hV, rfl, hfz, hnd⟩ := hW
  have hA : DataW.TrodAll enc Tryd.prog W 0 (fun _ => true) true Tryd.f3.params.toList args.toList ds p := hA0
  rw [Tryd.params3] at hA hval
  obtain ⟨v0, vs0, d0, ds0, p0, q0, hargs, rfl, rfl, h0, r0⟩ := trodAll_cons hA
  obtain ⟨v1, vs1, d1, ds1, p1, q1, rfl, rfl, rfl, h1, r1⟩ := trodAll_cons r0
  obtain ⟨rfl, rfl, rfl⟩ := trodAll_nil r1
  obtain rfl : args = #[v0, v1] := by cases args; simp_all
  obtain ⟨rfl, rfl⟩ := trodVars_none hV
  obtain ⟨a0, rfl, rfl, rfl, w0⟩ := open_int Tryd.underlying22 (hval 0 22 v0 rfl rfl) h0
  obtain ⟨a1, rfl, rfl, rfl, w1⟩ := open_string Tryd.underlying9 (hval 1 9 v1 rfl rfl) h1
  simp only [List.append_nil] at hW'
  have z1 : a1.size ≤ 140737488355328 := by
    have hq : a1.data.toList.length ≤ reachBytes := sized_string hsz (j := 1) (t := 9) rfl rfl
    rw [len_eq] at hq
    exact Nat.le_trans hq (Nat.le_of_lt reachBytes_lt)
  refine (walk a0 a1 w0 z1 W (env_of hL)).mono fun e W' ⟨he, hb⟩ => ?_
  subst he
  exact ⟨_, rfl, _, _, _, [], [], [], hW', (trodAll_cons_mk (shut_bool Tryd.underlying4 _) trodAll_mk0), (trodAll_cons_mk (shut_int Tryd.underlying22 w0) (trodAll_cons_mk (shut_string Tryd.underlying9 w1) trodAll_mk0)), rfl, hb.frame _, fun h => by cases h⟩

theorem over : Rows.addrTextsRow.holds Tryd.pinned (OpenSpec.ofChange Rows.addrTextsSpec) :=
  OpenClaim.holds_of_wide 3 Tryd.f3 rfl rfl rfl rfl rfl rfl rfl ⟨rfl, rfl, rfl, rfl, rfl⟩ rfl rfl rfl rfl rfl (by kernel_rfl) Tryd.func3 (by kernel_rfl)
    (of_decide_eq_true (by kernel_rfl)) (by unfold Func.isWrapper; first | (rw [if_pos (by decide +kernel)]; kernel_rfl) | (rw [if_neg (by decide +kernel)]; exact ⟨rfl, rfl⟩))
    (fun os started H enc _ => lifted os started H enc)

theorem proved : Rows.AddrTextsCardSaid :=
  Claim7.holds_tied_plain_at .later [] [.data, .data, .data, .data, .sentinel, .sentinel, .pinned] true (true, "175afbf1b3771384037ba59ab58552f86875b3316abe2b1edeec32f6b76d1a09") true over (fun _ h => by cases h) (by kernel_rfl) (fun _ h => by cases h) addrTexts_row_tie rfl ⟨rfl, rfl⟩ (by kernel_rfl) rfl
    (fun f fn hf hfn => by
      obtain rfl : f = 3 := Option.some.inj ((show Tryd.prog.funcNamed Rows.addrTextsRow.func = some 3 by kernel_rfl).symm.trans hf) |>.symm
      obtain rfl : fn = Tryd.f3 := (Option.some.inj (Tryd.func3.symm.trans hfn)).symm
      exact ⟨by kernel_rfl, fun j t ht => by
        rw [Tryd.params3] at ht
        have hm : t ∈ [22, 9] := by simpa using Array.mem_of_getElem? ht
        have hall : ([22, 9].all fun u => !Tryd.prog.wantsStandIn u) = true := by kernel_rfl
        exact (show Tryd.prog.wantsStandIn t = false by simpa using List.all_eq_true.1 hall t hm)⟩)
    (by kernel_rfl)
#print axioms proved
end Go.Proofs.YtnnhkjjnolhaoaaDoor.addrTexts
