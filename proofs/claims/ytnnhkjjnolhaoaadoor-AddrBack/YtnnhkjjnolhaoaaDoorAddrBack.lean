/- AddrBack answers true for every address, every number of 8 bits and every text, and changes nothing that was there before; the library's variables are as the program's text lays them (the card ties that). -/
import Derived.Test.YtnnhkjjnolhaoaaDoorAdLaid
import Derived.Test.YtnnhkjjnolhaoaaDoorAdEx
namespace Go.Proofs.YtnnhkjjnolhaoaaDoor.addrBack
open Go.ChangeShapes Go.WideShapes Go.ChangeAt Go.RowKit
open Go.ChangeMaps (open_string shut_string)
set_option linter.unusedVariables false
theorem cell_on {W W' : World} {a : Addr} {v : Value} (h : W.cell? a = some v) (hb : Below W.heap.size W W') : W'.cell? a = some v := by
  rw [hb.cell (block_lt_of_cell h)]; exact h
/-- The net at block B. -/
def Two (W : World) (B : Nat) (p q : Value) : Prop := W.cell? ⟨B, 0, none⟩ = some p ∧ W.cell? ⟨B, 1, none⟩ = some q
theorem Two.on {W W' : World} {B : Nat} {p q : Value} (h : Two W B p q) (hb : Below W.heap.size W W') : Two W' B p q := ⟨cell_on h.1 hb, cell_on h.2 hb⟩
theorem Two.new (w : World) (p q : Value) : Two (w.alloc (.cells #[p, q] 30)) w.heap.size p q := by
  refine ⟨?_, ?_⟩ <;> simp [go_sem]
theorem below_one (w : World) (o : Obj) : Below w.heap.size w (w.alloc o) := (Below.refl _ _).alloc (Nat.le_refl _) o

set_option maxHeartbeats 1000000 in
set_option maxRecDepth 100000 in
theorem walk_yes (a0 a1 : Int) (a2 : ByteArray) (A K : Nat) (w : World) (hE : Env w) (b0 : 0 ≤ a0) (b1 : a0 ≤ 4294967295) (c0 : 0 ≤ a1) (c1 : a1 ≤ 255) (z2 : a2.size ≤ 140737488355328)
    (hK : a1 % 33 = K) (k1 : K ≤ 32) (hA : bits .and .u32 a0 (Ad.msk K) = A) (A1 : A ≤ 4294967295) (HH : Ad.hasB A K A = true) (HN : Ad.IsNet (Ad.netx A K) A K) (HS : Ad.IsAddr a2.data.toList) :
    Calls Tryd.prog 5 #[.int .u32 a0, .int .u8 a1, .string a2] w fun e w' => e = .returned (.bool true) ∧ Below w.heap.size w w' := by
  have KH := hide HH; have KN := hide HN; have KS := hide HS
  have KE := hide (show (Ad.txt (Ad.gs a2.data.toList) == a2.toList) = true by rw [tl_eq, Ad.gs_is HS]; simp)
  have gl := Ad.gs_lt a2.data.toList
  have HP : ∀ W, Env W → Calls Tryd.prog 11 #[.string ⟨(Ad.txt a0.toNat).toArray⟩] W fun e w' => e = .returned (.tuple #[.int .u32 a0, .bool true]) ∧ Below W.heap.size W w' := fun W hW => by
    have := parse_txt a0.toNat ⟨(Ad.txt a0.toNat).toArray⟩ W (by omega) rfl hW
    rw [Int.toNat_of_nonneg b0] at this
    exact this
  have KP := hide HP
  clear HH HN HS HP
  have zn : (ByteArray.mk (Ad.netx A K).toArray).size ≤ 140737488355328 := by
    have := Ad.netx_length A K (by omega) k1
    rw [mk_size]; omega
  go_enter Tryd.func5, Tryd.ntmps5
  go_wp2_with fail
  refine (examples_ok _ hE).mono ?_
  rintro e w1 ⟨rfl, hb1⟩
  have B1 := hide hb1
  clear hb1
  go_wp2_with fail
  refine (mask_yes _ _ (by omega) (by omega)).mono ?_
  rintro e w1 ⟨rfl, rfl⟩
  have B2 := hide (Below.then (unhide B1) (below_one w1 (.cells #[.int .u32 A, .int .i64 K] 30)))
  have N2 := hide (Two.new w1 (.int .u32 A) (.int .i64 K))
  go_wp2_with fail
  refine (ntext_yes _ _ _ (by omega) (by omega) (unhide KH) (hE.on (unhide B2))).mono ?_
  rintro e w3 ⟨rfl, hb3⟩
  have B3 := hide (Below.then (unhide B2) hb3)
  have N3 := hide ((unhide N2).on hb3)
  clear hb3 B2 N2
  go_wp2_with fail
  refine (pnet_yes _ A K _ zn (hE.on (unhide B3)) (unhide KN)).mono ?_
  rintro e w4 ⟨rfl, hb4⟩
  have B4 := hide (Below.then (Below.then (unhide B3) hb4) (below_one w4 (.cells #[.int .u32 A, .int .i64 K] 30)))
  have N4 := hide (((unhide N3).on hb4).on (below_one w4 (.cells #[.int .u32 A, .int .i64 K] 30)))
  have M4 := hide (Two.new w4 (.int .u32 A) (.int .i64 K))
  clear hb4 B3 N3
  go_wp2_with fail
  refine (text_any _ _ b0 b1 (hE.on (unhide B4))).mono ?_
  rintro e w5 ⟨rfl, hb5⟩
  have B5 := hide (Below.then (unhide B4) hb5)
  have N5 := hide ((unhide N4).on hb5)
  have M5 := hide ((unhide M4).on hb5)
  clear hb5 B4 N4 M4
  go_wp2_with fail
  refine (unhide KP _ (hE.on (unhide B5))).mono ?_
  rintro e w6 ⟨rfl, hb6⟩
  have B6 := hide (Below.then (unhide B5) hb6)
  have N6 := hide ((unhide N5).on hb6)
  have M6 := hide ((unhide M5).on hb6)
  clear hb6 B5 N5 M5
  go_wp2_with fail
  refine (parse_yes a2 _ z2 (hE.on (unhide B6)) (unhide KS)).mono ?_
  rintro e w7 ⟨rfl, hb7⟩
  have B7 := hide (Below.then (unhide B6) hb7)
  obtain ⟨p0, p1⟩ := (unhide N6).on hb7
  obtain ⟨q0, q1⟩ := (unhide M6).on hb7
  clear hb7 B6 N6 M6
  go_wp2_with fail
  refine (text_any _ _ (by omega) (by omega) (hE.on (unhide B7))).mono ?_
  rintro e w8 ⟨rfl, hb8⟩
  have B8 := hide (Below.then (unhide B7) hb8)
  have ke := unhide KE
  clear hb8
  rw [Int.toNat_natCast]
  go_wp2_with fail
  go_ret
  exact ⟨rfl, unhide B8⟩
set_option maxHeartbeats 1000000 in
set_option maxRecDepth 100000 in
theorem walk_no (a0 a1 : Int) (a2 : ByteArray) (A K : Nat) (w : World) (hE : Env w) (b0 : 0 ≤ a0) (b1 : a0 ≤ 4294967295) (c0 : 0 ≤ a1) (c1 : a1 ≤ 255) (z2 : a2.size ≤ 140737488355328)
    (hK : a1 % 33 = K) (k1 : K ≤ 32) (hA : bits .and .u32 a0 (Ad.msk K) = A) (A1 : A ≤ 4294967295) (HH : Ad.hasB A K A = true) (HN : Ad.IsNet (Ad.netx A K) A K) (HS : ¬ Ad.IsAddr a2.data.toList) :
    Calls Tryd.prog 5 #[.int .u32 a0, .int .u8 a1, .string a2] w fun e w' => e = .returned (.bool true) ∧ Below w.heap.size w w' := by
  have KH := hide HH; have KN := hide HN; have KS := hide HS
  have HP : ∀ W, Env W → Calls Tryd.prog 11 #[.string ⟨(Ad.txt a0.toNat).toArray⟩] W fun e w' => e = .returned (.tuple #[.int .u32 a0, .bool true]) ∧ Below W.heap.size W w' := fun W hW => by
    have := parse_txt a0.toNat ⟨(Ad.txt a0.toNat).toArray⟩ W (by omega) rfl hW
    rw [Int.toNat_of_nonneg b0] at this
    exact this
  have KP := hide HP
  clear HH HN HS HP
  have zn : (ByteArray.mk (Ad.netx A K).toArray).size ≤ 140737488355328 := by
    have := Ad.netx_length A K (by omega) k1
    rw [mk_size]; omega
  go_enter Tryd.func5, Tryd.ntmps5
  go_wp2_with fail
  refine (examples_ok _ hE).mono ?_
  rintro e w1 ⟨rfl, hb1⟩
  have B1 := hide hb1
  clear hb1
  go_wp2_with fail
  refine (mask_yes _ _ (by omega) (by omega)).mono ?_
  rintro e w1 ⟨rfl, rfl⟩
  have B2 := hide (Below.then (unhide B1) (below_one w1 (.cells #[.int .u32 A, .int .i64 K] 30)))
  have N2 := hide (Two.new w1 (.int .u32 A) (.int .i64 K))
  go_wp2_with fail
  refine (ntext_yes _ _ _ (by omega) (by omega) (unhide KH) (hE.on (unhide B2))).mono ?_
  rintro e w3 ⟨rfl, hb3⟩
  have B3 := hide (Below.then (unhide B2) hb3)
  have N3 := hide ((unhide N2).on hb3)
  clear hb3 B2 N2
  go_wp2_with fail
  refine (pnet_yes _ A K _ zn (hE.on (unhide B3)) (unhide KN)).mono ?_
  rintro e w4 ⟨rfl, hb4⟩
  have B4 := hide (Below.then (Below.then (unhide B3) hb4) (below_one w4 (.cells #[.int .u32 A, .int .i64 K] 30)))
  have N4 := hide (((unhide N3).on hb4).on (below_one w4 (.cells #[.int .u32 A, .int .i64 K] 30)))
  have M4 := hide (Two.new w4 (.int .u32 A) (.int .i64 K))
  clear hb4 B3 N3
  go_wp2_with fail
  refine (text_any _ _ b0 b1 (hE.on (unhide B4))).mono ?_
  rintro e w5 ⟨rfl, hb5⟩
  have B5 := hide (Below.then (unhide B4) hb5)
  have N5 := hide ((unhide N4).on hb5)
  have M5 := hide ((unhide M4).on hb5)
  clear hb5 B4 N4 M4
  go_wp2_with fail
  refine (unhide KP _ (hE.on (unhide B5))).mono ?_
  rintro e w6 ⟨rfl, hb6⟩
  have B6 := hide (Below.then (unhide B5) hb6)
  have N6 := hide ((unhide N5).on hb6)
  have M6 := hide ((unhide M5).on hb6)
  clear hb6 B5 N5 M5
  go_wp2_with fail
  refine (parse_no a2 _ z2 (hE.on (unhide B6)) (unhide KS)).mono ?_
  rintro e w7 ⟨rfl, hb7⟩
  have B7 := hide (Below.then (unhide B6) hb7)
  obtain ⟨p0, p1⟩ := (unhide N6).on hb7
  obtain ⟨q0, q1⟩ := (unhide M6).on hb7
  clear hb7 B6 N6 M6
  go_wp2_with fail
  go_ret
  exact ⟨rfl, unhide B7⟩
set_option maxHeartbeats 1000000 in
set_option maxRecDepth 100000 in
theorem walk (a0 : Int) (a1 : Int) (a2 : ByteArray) (w0 : (Lit.int .u32 a0).wf = true) (w1 : (Lit.int .u8 a1).wf = true) (z2 : a2.size ≤ 140737488355328) (w : World) (hE : Env w) :
    Calls Tryd.prog 5 #[.int .u32 a0, .int .u8 a1, .string a2] w fun e w' => e = .returned (.bool true) ∧ Below w.heap.size w w' := by
  have b0 : 0 ≤ a0 := (bounds_u32 w0).1
  have b1 : a0 ≤ 4294967295 := (bounds_u32 w0).2
  have c0 : 0 ≤ a1 := (bounds_u8 w1).1
  have c1 : a1 ≤ 255 := (bounds_u8 w1).2
  obtain ⟨K, hK⟩ : ∃ K : Nat, a1 % 33 = K := ⟨(a1 % 33).toNat, by omega⟩
  have k1 : K ≤ 32 := by omega
  have hc0 := Ad.cut_lo K a0 b0
  have hc1 := Ad.cut_hi K a0 b0
  obtain ⟨A, hA⟩ : ∃ A : Nat, Ad.cut K a0 = A := ⟨(Ad.cut K a0).toNat, by omega⟩
  have hand := Ad.and_msk K a0 (by omega) (by omega) b0 b1
  rw [hA] at hand
  have hi : Ad.cut K A = A := by rw [← hA, Ad.cut_idem K a0 b0]
  have HH : Ad.hasB A K A = true := Ad.has_yes (by omega) (by omega) hi
  have HN : Ad.IsNet (Ad.netx A K) A K := ⟨by omega, k1, hi, rfl⟩
  by_cases h : Ad.IsAddr a2.data.toList
  · exact walk_yes a0 a1 a2 A K w hE b0 b1 c0 c1 z2 hK k1 hand (by omega) HH HN h
  · exact walk_no a0 a1 a2 A K w hE b0 b1 c0 c1 z2 hK k1 hand (by omega) HH HN h

set_option maxRecDepth 100000 in
theorem lifted (os : Os) (started : os.Started) (H : Type) (enc : TypeId × Value → H) :
    ReturnsInHanded {} Tryd.checked os 5 .any (fun w args => (Rows.addrBackSpec.pre enc Tryd.prog Tryd.f5 [] false w args ∧ laidMetH Tryd.prog Rows.addrBackRow.laid w) ∧ sizedMet enc Tryd.prog Tryd.f5 (OpenSpec.ofChange Rows.addrBackSpec) false w args)
      (Rows.addrBackSpec.post enc Tryd.prog Tryd.f5 false true false false) := by
  refine returnsInHanded_of_change_and (C := Tryd.checked) (X := fun w _ => laidMetH Tryd.prog Rows.addrBackRow.laid w) (fun _ _ _ hh h => h.of_heap hh) own started (by kernel_rfl) Tryd.func5
    (ChangeSpec.witness_shaped (enc := enc) (C := Tryd.checked) (os := os) (X := fun w _ => laidMetH Tryd.prog Rows.addrBackRow.laid w) false (World.laidAll Tryd.prog os Rows.addrTextsRow.laid) #[.int .u32 0, .int .u8 0, .string ByteArray.empty] 8 (World.laidAll_os _ _ _)
      (laid_shaped os) (by kernel_rfl) (by kernel_rfl) (by kernel_rfl) (laid_met os _)) ?_
  intro W base args ds gs before hval0 hW _ hsz hL _
  have hval : ∀ (j : Nat) t v, Tryd.f5.params[j]? = some t → args[j]? = some v → Value.okWide Tryd.prog W .any base t v := hval0
  have hW' := hW
  obtain ⟨p, q, hA0, hV, rfl, hfz, hnd⟩ := hW
  have hA : DataW.TrodAll enc Tryd.prog W 0 (fun _ => true) true Tryd.f5.params.toList args.toList ds p := hA0
  rw [Tryd.params5] at hA hval
  obtain ⟨v0, vs0, d0, ds0, p0, q0, hargs, rfl, rfl, h0, r0⟩ := trodAll_cons hA
  obtain ⟨v1, vs1, d1, ds1, p1, q1, rfl, rfl, rfl, h1, r1⟩ := trodAll_cons r0
  obtain ⟨v2, vs2, d2, ds2, p2, q2, rfl, rfl, rfl, h2, r2⟩ := trodAll_cons r1
  obtain ⟨rfl, rfl, rfl⟩ := trodAll_nil r2
  obtain rfl : args = #[v0, v1, v2] := by cases args; simp_all
  obtain ⟨rfl, rfl⟩ := trodVars_none hV
  obtain ⟨a0, rfl, rfl, rfl, w0⟩ := open_int Tryd.underlying22 (hval 0 22 v0 rfl rfl) h0
  obtain ⟨a1, rfl, rfl, rfl, w1⟩ := open_int Tryd.underlying5 (hval 1 5 v1 rfl rfl) h1
  obtain ⟨a2, rfl, rfl, rfl, w2⟩ := open_string Tryd.underlying9 (hval 2 9 v2 rfl rfl) h2
  simp only [List.append_nil] at hW'
  have z2 : a2.size ≤ 140737488355328 := by
    have hq : a2.data.toList.length ≤ reachBytes := sized_string hsz (j := 2) (t := 9) rfl rfl
    rw [len_eq] at hq
    exact Nat.le_trans hq (Nat.le_of_lt reachBytes_lt)
  refine (walk a0 a1 a2 w0 w1 z2 W (env_of hL)).mono fun e W' ⟨he, hb⟩ => ?_
  subst he
  exact ⟨_, rfl, _, _, _, [], [], [], hW', (trodAll_cons_mk (shut_bool Tryd.underlying4 _) trodAll_mk0), (trodAll_cons_mk (shut_int Tryd.underlying22 w0) (trodAll_cons_mk (shut_int Tryd.underlying5 w1) (trodAll_cons_mk (shut_string Tryd.underlying9 w2) trodAll_mk0))), rfl, hb.frame _, fun h => by cases h⟩

theorem over : Rows.addrBackRow.holds Tryd.pinned (OpenSpec.ofChange Rows.addrBackSpec) :=
  OpenClaim.holds_of_wide 5 Tryd.f5 rfl rfl rfl rfl rfl rfl rfl ⟨rfl, rfl, rfl, rfl, rfl⟩ rfl rfl rfl rfl rfl (by kernel_rfl) Tryd.func5 (by kernel_rfl)
    (of_decide_eq_true (by kernel_rfl)) (by unfold Func.isWrapper; first | (rw [if_pos (by decide +kernel)]; kernel_rfl) | (rw [if_neg (by decide +kernel)]; exact ⟨rfl, rfl⟩))
    (fun os started H enc _ => lifted os started H enc)

theorem proved : Rows.AddrBackCardSaid :=
  Claim7.holds_tied_plain_at .later [] [.data, .data, .data, .data, .sentinel, .sentinel, .pinned] true (true, "175afbf1b3771384037ba59ab58552f86875b3316abe2b1edeec32f6b76d1a09") true over (fun _ h => by cases h) (by kernel_rfl) (fun _ h => by cases h) addrBack_row_tie rfl ⟨rfl, rfl⟩ (by kernel_rfl) rfl
    (fun f fn hf hfn => by
      obtain rfl : f = 5 := Option.some.inj ((show Tryd.prog.funcNamed Rows.addrBackRow.func = some 5 by kernel_rfl).symm.trans hf) |>.symm
      obtain rfl : fn = Tryd.f5 := (Option.some.inj (Tryd.func5.symm.trans hfn)).symm
      exact ⟨by kernel_rfl, fun j t ht => by
        rw [Tryd.params5] at ht
        have hm : t ∈ [22, 5, 9] := by simpa using Array.mem_of_getElem? ht
        have hall : ([22, 5, 9].all fun u => !Tryd.prog.wantsStandIn u) = true := by kernel_rfl
        exact (show Tryd.prog.wantsStandIn t = false by simpa using List.all_eq_true.1 hall t hm)⟩)
    (by kernel_rfl)
#print axioms proved
end Go.Proofs.YtnnhkjjnolhaoaaDoor.addrBack
