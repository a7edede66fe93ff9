/- AddrParts answers true for all addresses a and b, and changes nothing that was there before; the library's variables are as the program's text lays them (the card ties that). -/
import Derived.Test.YtnnhkjjnolhaoaaDoorAdLaid
import Derived.Test.YtnnhkjjnolhaoaaDoorAdEx
import Derived.Test.YtnnhkjjnolhaoaaDoorAdRef
namespace Go.Proofs.YtnnhkjjnolhaoaaDoor.addrParts
open Go.ChangeShapes Go.WideShapes Go.ChangeAt Go.RowKit
open Go.ChangeMaps (open_string shut_string)
set_option linter.unusedVariables false
theorem count_dig (b : Nat) (h : b < 256) : (Ad.dig b).count 46 = 0 := List.count_eq_zero.2 (Ad.p46 b h)
theorem txt_count (a : Nat) (h : a < 4294967296) : (Ad.txt a).count 46 = 3 := by
  simp [Ad.txt, List.count_append, count_dig _ (Ad.b3 a h), count_dig (a / 65536 % 256) (by omega), count_dig (a / 256 % 256) (by omega), count_dig (a % 256) (by omega)]
theorem dig_byte (b : Nat) (h : b < 256) (c : UInt8) (hc : c ∈ Ad.dig b) : 48 ≤ c.toNat ∧ c.toNat ≤ 57 := by
  have := List.all_eq_true.1 (Ad.dig_all b h) c hc
  simp only [Bool.and_eq_true, decide_eq_true_eq, UInt8.le_iff_toNat_le] at this
  exact this
theorem txt_byte (a : Nat) (h : a < 4294967296) (c : UInt8) (hc : c ∈ Ad.txt a) : c = 46 ∨ (48 ≤ c.toNat ∧ c.toNat ≤ 57) := by
  simp only [Ad.txt, List.mem_append, List.mem_cons] at hc
  rcases hc with hc | hc | hc | hc | hc | hc | hc
  · exact .inr (dig_byte _ (Ad.b3 a h) c hc)
  · exact .inl hc
  · exact .inr (dig_byte _ (by omega) c hc)
  · exact .inl hc
  · exact .inr (dig_byte _ (by omega) c hc)
  · exact .inl hc
  · exact .inr (dig_byte _ (by omega) c hc)
theorem no_more (a : Nat) (h : a < 4294967296) : ¬ Ad.IsAddr (Ad.txt a ++ [46, 48]) := by
  rintro ⟨b, hb, e⟩
  have := congrArg (List.count 46) e
  rw [txt_count b hb, List.count_append, txt_count a h] at this
  simp at this
theorem before_txt (a : Nat) (h : a < 4294967296) : Ad.before 46 (Ad.txt a) = Ad.dig (a / 16777216) := Ad.before_app 46 _ _ (Ad.p46 _ (Ad.b3 a h))
theorem no_zero (a : Nat) (h : a < 4294967296) : ¬ Ad.IsAddr (48 :: Ad.txt a) := by
  rintro ⟨b, hb, e⟩
  have e1 := congrArg (Ad.before 46) e
  rw [before_txt b hb] at e1
  have e2 : Ad.before 46 (48 :: Ad.txt a) = 48 :: Ad.dig (a / 16777216) := by
    rw [Ad.before, if_neg (by decide), before_txt a h]
  rw [e2] at e1
  have h1 := Ad.dig_zero _ (Ad.b3 b hb) (by rw [e1]; rfl)
  have h2 := Ad.dig_lo _ (Ad.b3 a h)
  rw [e1] at h1
  simp at h1
  rw [h1] at h2
  simp at h2
theorem count_take (s : ByteArray) (k : Nat) (h : k < s.size) : (s.data.toList.take (k + 1)).count 46 = (s.data.toList.take k).count 46 + if s[k] = 46 then 1 else 0 := by
  rw [take_snoc s k h, List.count_append]
  congr 1
  by_cases hc : s[k] = 46 <;> simp [hc]

set_option maxHeartbeats 1000000 in
set_option maxRecDepth 100000 in
theorem walk_all (a0 a1 : Int) (S : ByteArray) (q : Bool) (w : World) (hE : Env w) (b0 : 0 ≤ a0) (b1 : a0 ≤ 4294967295) (c0 : 0 ≤ a1) (c1 : a1 ≤ 4294967295) (l0 : 7 ≤ S.size) (l1 : S.size ≤ 15)
    (HT : ∀ w, Env w → Calls Tryd.prog 13 #[.int .u32 a0] w fun e w' => e = .returned (.string S) ∧ Below w.heap.size w w')
    (HC : S.data.toList.count 46 = 3) (HB : ∀ c ∈ S.data.toList, c = 46 ∨ (48 ≤ c.toNat ∧ c.toNat ≤ 57)) (HM : ¬ Ad.IsAddr (S ++ ⟨#[46, 48]⟩).data.toList) (HZ : ¬ Ad.IsAddr (⟨#[48]⟩ ++ S : ByteArray).data.toList)
    (hq1 : (S.toList == Ad.txt a1.toNat) = q) (hq2 : (a0 == a1) = q) :
    Calls Tryd.prog 8 #[.int .u32 a0, .int .u32 a1] w fun e w' => e = .returned (.bool true) ∧ Below w.heap.size w w' := by
  have zm : (S ++ ⟨#[46, 48]⟩).size ≤ 140737488355328 := by rw [ByteArray.size_append]; simp [mk_size]; omega
  have zz : (⟨#[48]⟩ ++ S : ByteArray).size ≤ 140737488355328 := by rw [ByteArray.size_append]; simp [mk_size]; omega
  have KT := hide HT; have KC := hide HC; have KB := hide HB; have KM := hide HM; have KZ := hide HZ
  clear HT HC HB HM HZ
  go_enter Tryd.func8, Tryd.ntmps8
  go_wp2_with fail
  refine (examples_ok _ hE).mono ?_
  rintro e w1 ⟨rfl, hb1⟩
  have B1 := hide hb1
  clear hb1
  go_wp2_with fail
  refine (unhide KT _ (hE.on (unhide B1))).mono ?_
  rintro e w2 ⟨rfl, hb2⟩
  have B2 := hide (Below.then (unhide B1) hb2)
  clear hb2
  go_wp2_with fail
  go_loop [7, 8] (fun n i => ∃ k : Nat, k ≤ S.size ∧ i = .int .i64 k ∧ n = .int .i64 ((S.data.toList.take k).count 46 : Nat)) (fun _ i => S.size - (intOf i).toNat)
  case atStart => exact ⟨0, Nat.zero_le _, rfl, rfl⟩
  case round =>
    obtain ⟨k, hk, rfl, rfl⟩ := hrel
    have hcl : (S.data.toList.take k).count 46 ≤ 15 := Nat.le_trans List.count_le_length (by rw [List.length_take]; omega)
    obtain ⟨n, hn⟩ : ∃ n, (S.data.toList.take k).count 46 = n := ⟨_, rfl⟩
    rw [hn] at hcl ⊢
    by_cases hlt : k < S.size
    · have hst := count_take S k hlt
      rw [hn] at hst
      have hby : (S[k].toNat : Int) < 256 := by have := S[k].toNat_lt; omega
      have hmem := unhide KB S[k] (by rw [← Array.mem_def]; exact Array.getElem_mem hlt)
      clear hn
      by_cases hc : S[k] = 46
      · have h46 : (S[k].toNat : Int) = 46 := by rw [hc]; rfl
        rw [if_pos hc] at hst
        have HS := hide hst; clear hst hc hmem
        go_wp2
        go_round
        case rel => exact ⟨k + 1, by omega, by go_num, by rw [unhide HS]; go_num⟩
        case measure => simp [intOf]; omega
      · have h46 : ¬ (S[k].toNat : Int) = 46 := fun e => hc (by apply UInt8.toNat_inj.1; have : (46 : UInt8).toNat = 46 := rfl; omega)
        rw [if_neg hc] at hst
        obtain ⟨g0, g1⟩ : 48 ≤ S[k].toNat ∧ S[k].toNat ≤ 57 := by rcases hmem with h | h; exact absurd h hc; exact h
        have g0' : ¬ (S[k].toNat : Int) < 48 := by omega
        have g1' : ¬ (57 : Int) < S[k].toNat := by omega
        have HS := hide hst; clear hst hc hmem
        go_wp2
        go_round
        case rel => exact ⟨k + 1, by omega, by go_num, by rw [unhide HS]; go_num⟩
        case measure => simp [intOf]; omega
    · have e : S.data.toList.take k = S.data.toList := List.take_of_length_le (by rw [len_eq]; omega)
      have hn3 : n = 3 := by rw [← hn, e]; exact unhide KC
      subst hn3
      clear hn e hcl
      go_wp2_with fail
      refine (parse_no _ _ zm (hE.on (unhide B2)) (unhide KM)).mono ?_
      rintro e w3 ⟨rfl, hb3⟩
      have B3 := hide (Below.then (unhide B2) hb3)
      clear hb3
      go_wp2_with fail
      refine (parse_no _ _ zz (hE.on (unhide B3)) (unhide KZ)).mono ?_
      rintro e w4 ⟨rfl, hb4⟩
      have B4 := hide (Below.then (unhide B3) hb4)
      clear hb4
      go_wp2_with fail
      refine (text_any _ _ c0 c1 (hE.on (unhide B4))).mono ?_
      rintro e w5 ⟨rfl, hb5⟩
      have B5 := hide (Below.then (unhide B4) hb5)
      clear hb5
      cases q
      all_goals
        go_wp2_with fail
        go_ret
        exact ⟨rfl, unhide B5⟩
set_option maxHeartbeats 1000000 in
set_option maxRecDepth 100000 in
theorem walk (a0 : Int) (a1 : Int) (w0 : (Lit.int .u32 a0).wf = true) (w1 : (Lit.int .u32 a1).wf = true) (w : World) (hE : Env w) :
    Calls Tryd.prog 8 #[.int .u32 a0, .int .u32 a1] w fun e w' => e = .returned (.bool true) ∧ Below w.heap.size w w' := by
  have b0 : 0 ≤ a0 := (bounds_u32 w0).1
  have b1 : a0 ≤ 4294967295 := (bounds_u32 w0).2
  have c0 : 0 ≤ a1 := (bounds_u32 w1).1
  have c1 : a1 ≤ 4294967295 := (bounds_u32 w1).2
  have hl := Ad.txt_length a0.toNat (by omega)
  have hq : ∃ q : Bool, (Ad.txt a0.toNat == Ad.txt a1.toNat) = q ∧ (a0 == a1) = q := by
    by_cases h : a0 = a1
    · exact ⟨true, by simp [h], by simp [h]⟩
    · refine ⟨false, beq_eq_false_iff_ne.2 fun e => h ?_, by simp [h]⟩
      have := Ad.txt_inj _ _ (by omega) (by omega) e
      omega
  obtain ⟨q, hq1, hq2⟩ := hq
  refine walk_all a0 a1 ⟨(Ad.txt a0.toNat).toArray⟩ q w hE b0 b1 c0 c1 (by rw [mk_size]; exact hl.1) (by rw [mk_size]; exact hl.2) (fun w hE => text_any a0 w b0 b1 hE) (txt_count _ (by omega)) (fun c hc => txt_byte _ (by omega) c hc) ?_ ?_ ?_ hq2
  · have e : (ByteArray.mk (Ad.txt a0.toNat).toArray ++ ⟨#[46, 48]⟩).data.toList = Ad.txt a0.toNat ++ [46, 48] := by simp [ByteArray.data_append]
    rw [e]; exact no_more _ (by omega)
  · have e : (ByteArray.mk #[48] ++ ⟨(Ad.txt a0.toNat).toArray⟩).data.toList = 48 :: Ad.txt a0.toNat := by simp [ByteArray.data_append]
    rw [e]; exact no_zero _ (by omega)
  · rw [tl_eq]; exact hq1

set_option maxRecDepth 100000 in
theorem lifted (os : Os) (started : os.Started) (H : Type) (enc : TypeId × Value → H) :
    ReturnsInHanded {} Tryd.checked os 8 .any (fun w args => (Rows.addrPartsSpec.pre enc Tryd.prog Tryd.f8 [] false w args ∧ laidMetH Tryd.prog Rows.addrPartsRow.laid w) ∧ sizedMet enc Tryd.prog Tryd.f8 (OpenSpec.ofChange Rows.addrPartsSpec) false w args)
      (Rows.addrPartsSpec.post enc Tryd.prog Tryd.f8 false true false false) := by
  refine returnsInHanded_of_change_and (C := Tryd.checked) (X := fun w _ => laidMetH Tryd.prog Rows.addrPartsRow.laid w) (fun _ _ _ hh h => h.of_heap hh) own started (by kernel_rfl) Tryd.func8
    (ChangeSpec.witness_shaped (enc := enc) (C := Tryd.checked) (os := os) (X := fun w _ => laidMetH Tryd.prog Rows.addrPartsRow.laid w) false (World.laidAll Tryd.prog os Rows.addrTextsRow.laid) #[.int .u32 0, .int .u32 0] 8 (World.laidAll_os _ _ _)
      (laid_shaped os) (by kernel_rfl) (by kernel_rfl) (by kernel_rfl) (laid_met os _)) ?_
  intro W base args ds gs before hval0 hW _ hsz hL _
  have hval : ∀ (j : Nat) t v, Tryd.f8.params[j]? = some t → args[j]? = some v → Value.okWide Tryd.prog W .any base t v := hval0
  have hW' := hW
  obtain ⟨p, q, hA0, hV, rfl, hfz, hnd⟩ := hW
  have hA : DataW.TrodAll enc Tryd.prog W 0 (fun _ => true) true Tryd.f8.params.toList args.toList ds p := hA0
  rw [Tryd.params8] at hA hval
  obtain ⟨v0, vs0, d0, ds0, p0, q0, hargs, rfl, rfl, h0, r0⟩ := trodAll_cons hA
  obtain ⟨v1, vs1, d1, ds1, p1, q1, rfl, rfl, rfl, h1, r1⟩ := trodAll_cons r0
  obtain ⟨rfl, rfl, rfl⟩ := trodAll_nil r1
  obtain rfl : args = #[v0, v1] := by cases args; simp_all
  obtain ⟨rfl, rfl⟩ := trodVars_none hV
  obtain ⟨a0, rfl, rfl, rfl, w0⟩ := open_int Tryd.underlying22 (hval 0 22 v0 rfl rfl) h0
  obtain ⟨a1, rfl, rfl, rfl, w1⟩ := open_int Tryd.underlying22 (hval 1 22 v1 rfl rfl) h1
  simp only [List.append_nil] at hW'
  refine (walk a0 a1 w0 w1 W (env_of hL)).mono fun e W' ⟨he, hb⟩ => ?_
  subst he
  exact ⟨_, rfl, _, _, _, [], [], [], hW', (trodAll_cons_mk (shut_bool Tryd.underlying4 _) trodAll_mk0), (trodAll_cons_mk (shut_int Tryd.underlying22 w0) (trodAll_cons_mk (shut_int Tryd.underlying22 w1) trodAll_mk0)), rfl, hb.frame _, fun h => by cases h⟩

theorem over : Rows.addrPartsRow.holds Tryd.pinned (OpenSpec.ofChange Rows.addrPartsSpec) :=
  OpenClaim.holds_of_wide 8 Tryd.f8 rfl rfl rfl rfl rfl rfl rfl ⟨rfl, rfl, rfl, rfl, rfl⟩ rfl rfl rfl rfl rfl (by kernel_rfl) Tryd.func8 (by kernel_rfl)
    (of_decide_eq_true (by kernel_rfl)) (by unfold Func.isWrapper; first | (rw [if_pos (by decide +kernel)]; kernel_rfl) | (rw [if_neg (by decide +kernel)]; exact ⟨rfl, rfl⟩))
    (fun os started H enc _ => lifted os started H enc)

theorem proved : Rows.AddrPartsCardSaid :=
  Claim7.holds_tied_plain_at .later [] [.data, .data, .data, .data, .sentinel, .sentinel, .pinned] true (true, "175afbf1b3771384037ba59ab58552f86875b3316abe2b1edeec32f6b76d1a09") true over (fun _ h => by cases h) (by kernel_rfl) (fun _ h => by cases h) addrParts_row_tie rfl ⟨rfl, rfl⟩ (by kernel_rfl) rfl
    (fun f fn hf hfn => by
      obtain rfl : f = 8 := Option.some.inj ((show Tryd.prog.funcNamed Rows.addrPartsRow.func = some 8 by kernel_rfl).symm.trans hf) |>.symm
      obtain rfl : fn = Tryd.f8 := (Option.some.inj (Tryd.func8.symm.trans hfn)).symm
      exact ⟨by kernel_rfl, fun j t ht => by
        rw [Tryd.params8] at ht
        have hm : t ∈ [22, 22] := by simpa using Array.mem_of_getElem? ht
        have hall : ([22, 22].all fun u => !Tryd.prog.wantsStandIn u) = true := by kernel_rfl
        exact (show Tryd.prog.wantsStandIn t = false by simpa using List.all_eq_true.1 hall t hm)⟩)
    (by kernel_rfl)
#print axioms proved
end Go.Proofs.YtnnhkjjnolhaoaaDoor.addrParts
