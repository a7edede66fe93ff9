/- The law TcpCut returns true for every body, place and number of options. -/
import Derived.Test.YtgfmpcfdggcifaaRows
import Derived.OpenShut
import Derived.ShutString
import Derived.ChangeOld
import Derived.Below
import Derived.SizedLaws
import Derived.Test.YtgfmpcfdggcifaaTcOpen
import Derived.Test.YtgfmpcfdggcifaaTcMake
import Derived.Test.YtgfmpcfdggcifaaTcEx
namespace Go.Proofs.Ytgfmpcfdggcifaa.tcpCut
open Go.ChangeShapes Go.WideShapes Go.ChangeAt Go.RowKit
open Go.ChangeMaps (open_string shut_string)
set_option linter.unusedVariables false
theorem ones_right (n : Nat) (h1 : n ≤ 40) (h2 : n % 4 = 0) : RightP ⟨5, 0, 0, 0, 0, 0, 0, onesS n⟩ :=
  ⟨by simp, by simp, by simp, by simp, by simp, by show (onesS n).size ≤ 40; rw [onesS_size]; exact h1, by show (onesS n).size % 4 = 0; rw [onesS_size]; exact h2, by show optsOk (onesS n).data.toList = true; rw [onesS_list]; exact opts_ones n⟩
theorem ones_wf (n : Nat) (h1 : n ≤ 1000) : (⟨5, 0, 0, 0, 0, 0, 0, onesS n⟩ : Hd).Wf :=
  ⟨by simp, by simp, by simp, by simp, by simp, by simp, by simp, by show (onesS n).size ≤ _; rw [onesS_size]; omega⟩
/-- A segment that is cut. -/
theorem cut_list {h : Hd} (r : RightP h) (hw : h.Wf) (body : ByteArray) (k : Nat) (h0 : 20 ≤ k) : ((built h body).extract 0 k).data.toList = fixL h ++ (h.opts.data.toList ++ body.data.toList).take (k - 20) := by
  rw [Oct.ext_list, List.drop_zero, built_list r hw, List.take_append, fixL_length, List.take_of_length_le (by rw [fixL_length]; exact h0)]
theorem cut_size {h : Hd} (body : ByteArray) (k : Nat) (hk : k ≤ (built h body).size) : ((built h body).extract 0 k).size = k := by rw [Oct.ext_size _ _ _ hk]; rfl
theorem cut_short {s : ByteArray} (h : s.size < 20) : parseE s = 2 := by unfold parseE; rw [if_pos h]
theorem cut_head {h : Hd} (r : RightP h) (hw : h.Wf) (body : ByteArray) (k : Nat) (h0 : 20 ≤ k) (h1 : k < 20 + h.opts.size) (hk : k ≤ (built h body).size) : parseE ((built h body).extract 0 k) = 4 := by
  have g := gots_of r hw (cut_list r hw body k h0)
  have hz := hsz_of r g
  have hs := cut_size body k hk
  unfold parseE
  rw [if_neg (by omega), if_neg (by omega), if_pos (by omega)]
theorem cut_body {h : Hd} (r : RightP h) (hw : h.Wf) (body : ByteArray) (k : Nat) (h1 : 20 + h.opts.size ≤ k) : (built h body).extract 0 k = built h (body.extract 0 (k - 20 - h.opts.size)) := by
  apply Oct.ba_ext
  rw [cut_list r hw body k (by omega), built_list r hw, Oct.ext_list, List.drop_zero, List.take_append, Oct.len_eq, List.take_of_length_le (by rw [Oct.len_eq]; omega)]
set_option maxHeartbeats 4000000 in
set_option maxRecDepth 100000 in
theorem walk (w : World) (a0 : ByteArray) (z0 : a0.size ≤ 140737488355328) (a1 : Int) (w1 : (Lit.int .u8 a1).wf = true) (a2 : Int) (w2 : (Lit.int .u8 a2).wf = true) :
    Calls Try.prog 8 #[.string a0, .int .u8 a1, .int .u8 a2] w fun e w' => e = .returned (.bool true) ∧ Below w.heap.size w w' := by
  obtain ⟨y0, y1⟩ := bounds_u8 w1
  obtain ⟨v0, v1⟩ := bounds_u8 w2
  obtain ⟨m, hmin⟩ : ∃ m : Nat, min (a0.size : Int) 100 = m := ⟨min a0.size 100, by omega⟩
  have hm1 : m ≤ 100 := by omega
  have hm2 : m ≤ a0.size := by omega
  have hm3 : (m : Int) ≤ a0.size := by omega
  have hBs : (a0.extract 0 m).size = m := by rw [Oct.ext_size _ _ _ hm2]; rfl
  obtain ⟨N, hN⟩ : ∃ N : Nat, 4 * (a2 % 11) = N := ⟨(4 * (a2 % 11)).toNat, by omega⟩
  have hN1 : N ≤ 40 := by omega
  have hN4 : N % 4 = 0 := by omega
  have hmk := make_run (N : Int) (by omega) (by omega)
  simp only [Int.toNat_natCast] at hmk
  generalize hB : a0.extract 0 m = B at *
  go_enter Try.func8, Try.ntmps8
  go_wp2_with fail
  refine (examples_ok _).mono ?_
  rintro e w1' ⟨rfl, hb1⟩
  have HB := hide hb1
  clear hb1
  go_wp2
  have hb1s := (unhide HB).size
  have hbt0 := made_bts w1' N
  have hbl0 := (unhide HB).alloc hb1s (.cells (madeCells #[.int .u8 0] N) 5)
  have HT := hide hbt0
  have HB := hide hbl0
  clear hbt0 hbl0 hmk
  generalize w1'.alloc (.cells (madeCells #[.int .u8 0] N) 5) = W0 at *
  generalize w1'.heap.size = g at *
  go_loopw [10] (fun t W => ∃ i : Nat, i ≤ N ∧ t = .int .i64 i ∧ Bts W g (onesL N i) ∧ Below w.heap.size w W) (fun t _ => N - (intOf t).toNat)
  case atStart => exact ⟨0, Nat.zero_le _, rfl, unhide HT, unhide HB⟩
  case round =>
    obtain ⟨i, hi, rfl, hT, hb⟩ := hrel
    by_cases hlt : i < N
    · have hlt' : (i : Int) < N := by omega
      have hc := (hT i (by rw [onesL_length N i hi]; exact hlt)).1
      have hf := (hT i (by rw [onesL_length N i hi]; exact hlt)).2
      have hT2 := hT.set i (by rw [onesL_length N i hi]; exact hlt) 1 (by decide) (by decide)
      rw [onesL_set N i hlt] at hT2
      have HT2 := hide hT2
      have HB2 := hide (hb.setCell (p := ⟨g, i, none⟩) hb1s (.int .u8 1))
      clear hT hT2 hb
      go_wp2_with fail
      go_roundw
      case rel => exact ⟨i + 1, by omega, by go_num, unhide HT2, unhide HB2⟩
      case measure => simp [intOf]; omega
    · obtain rfl : i = N := by omega
      have htx := fun (W : World) (h : Bts W g (onesL i i)) => h.text i
      rw [onesL_length i i (Nat.le_refl _)] at htx
      have htx : ∀ W, Bts W g (onesL i i) → (convert 38 9 (.slice (some ⟨g, 0, none⟩) i i)).run Try.prog W = .ok (.string (onesS i)) W := htx
      have HTX := hide htx
      have HT := hide hT
      have HB := hide hb
      have hd : decide ((i : Int) < i) = false := by simp
      clear htx hT hb
      have R := ones_right i hN1 hN4
      have Wf := ones_wf i (by omega)
      have he : buildE ⟨5, 0, 0, 0, 0, 0, 0, onesS i⟩ B = 0 := buildE_of R (by
        show (20 : Int) + ((onesS i).size : Int) + (B.size : Int) ≤ 1500
        rw [onesS_size, hBs]; omega)
      have hos : (Hd.mk 5 0 0 0 0 0 0 (onesS i)).opts.size = i := onesS_size i
      have hSs := built_size R Wf B
      rw [hos, hBs] at hSs
      have hcv := unhide HTX _ (unhide HT)
      have bc : ∀ u, Calls Try.prog 11 #[(Hd.mk 5 0 0 0 0 0 0 (onesS i)).val, .string B] u fun e u' => e = .returned (.tuple #[.string (built ⟨5, 0, 0, 0, 0, 0, 0, onesS i⟩ B), .int .i64 0]) ∧ Below u.heap.size u u' := fun u => by
        have := build_any _ B u Wf (by omega)
        rw [buildS_of he, he] at this
        exact this
      have HBC := hide bc
      have F1 := hide (fun k => cut_head R Wf B k)
      have F2 := hide (fun k => cut_body R Wf B k)
      have F3 := hide (fun b => parse_built R Wf b)
      have HOS := hide hos
      have HSS := hide hSs
      clear bc he hos hSs
      go_wp2_with fail
      refine (unhide HBC _).mono ?_
      rintro e v1 ⟨rfl, hc1⟩
      have HB := hide (Below.then (unhide HB) hc1)
      clear hc1 HBC HT HTX hcv
      have hSs := unhide HSS
      generalize hS : built ⟨5, 0, 0, 0, 0, 0, 0, onesS i⟩ B = S at *
      obtain ⟨K, hK⟩ : ∃ K : Nat, a1 % ((S.size : Int) + 1) = K := ⟨(a1 % ((S.size : Int) + 1)).toNat, by have := Int.emod_nonneg a1 (show (S.size : Int) + 1 ≠ 0 by omega); omega⟩
      have hK1 : K < S.size + 1 := by have := Int.emod_lt_of_pos a1 (show 0 < (S.size : Int) + 1 by omega); omega
      have hKt : a1.tmod ((S.size : Int) + 1) = K := by rw [Int.tmod_eq_emod_of_nonneg y0]; exact hK
      have hKS : (K : Int) ≤ S.size := by omega
      have hne : ¬ ((S.size : Int) + 1 = 0) := by omega
      have hd1 : ((S.size : Int) != 20 + (i : Int) + (B.size : Int)) = false := by simp; omega
      have hxs : (S.extract 0 K).size ≤ 281474976710656 := by rw [Oct.ext_size _ _ _ (by omega)]; omega
      have hxz : (S.extract 0 K).size = K := by rw [Oct.ext_size _ _ _ (by omega)]; rfl
      by_cases c1 : K < 20
      case pos =>
        have PE : parseE (S.extract 0 K) = 2 := cut_short (by rw [hxz]; exact c1)
        have PS : parseS (S.extract 0 K) = ⟨#[]⟩ := parseS_no (by rw [PE]; decide)
        have d1 : decide ((K : Int) < 20) = true := by simp; omega
        have pc : ∀ u, Calls Try.prog 20 #[.string (S.extract 0 K)] u fun e u' => e = .returned (.tuple #[(parseH (S.extract 0 K)).val, .string ⟨#[]⟩, .int .i64 2]) ∧ Below u.heap.size u u' := fun u => by
          have := parse_any (S.extract 0 K) u hxs
          rw [PE, PS] at this
          exact this
        have PC := hide pc
        have hSb : (S.size : Int) ≤ 1000 := by omega
        have hBb : (B.size : Int) ≤ 100 := by omega
        clear pc PE PS F1 F2 F3 HOS HSS hxz hxs hSs hBs hS hB
        generalize hX : S.extract 0 K = X at *
        generalize parseH X = PH at *
        go_wp2_with fail
        refine (unhide PC _).mono ?_
        rintro e v2 ⟨rfl, hc2⟩
        have HB := hide ((Below.then (unhide HB) hc2).alloc (Below.then (unhide HB) hc2).size (.cells #[.int .i64 PH.src, .int .i64 PH.dst, .int .u32 PH.seq, .int .u32 PH.ack, .int .i64 PH.flags, .int .i64 PH.win, .int .i64 PH.urg, .string PH.opts] 24))
        clear hc2
        go_wp2_with fail
        go_ret
        exact ⟨rfl, unhide HB⟩
      case neg =>
      have d1 : decide ((K : Int) < 20) = false := by simp; omega
      by_cases c2 : K < 20 + i
      case pos =>
        have PE : parseE (S.extract 0 K) = 4 := unhide F1 K (by omega) (by rw [unhide HOS]; exact c2) (by omega)
        have PS : parseS (S.extract 0 K) = ⟨#[]⟩ := parseS_no (by rw [PE]; decide)
        have d2 : decide ((K : Int) < 20 + (i : Int)) = true := by simp; omega
        have pc : ∀ u, Calls Try.prog 20 #[.string (S.extract 0 K)] u fun e u' => e = .returned (.tuple #[(parseH (S.extract 0 K)).val, .string ⟨#[]⟩, .int .i64 4]) ∧ Below u.heap.size u u' := fun u => by
          have := parse_any (S.extract 0 K) u hxs
          rw [PE, PS] at this
          exact this
        have PC := hide pc
        have hSb : (S.size : Int) ≤ 1000 := by omega
        have hBb : (B.size : Int) ≤ 100 := by omega
        clear pc PE PS F1 F2 F3 HOS HSS hxz hxs hSs hBs hS hB
        generalize hX : S.extract 0 K = X at *
        generalize parseH X = PH at *
        go_wp2_with fail
        refine (unhide PC _).mono ?_
        rintro e v2 ⟨rfl, hc2⟩
        have HB := hide ((Below.then (unhide HB) hc2).alloc (Below.then (unhide HB) hc2).size (.cells #[.int .i64 PH.src, .int .i64 PH.dst, .int .u32 PH.seq, .int .u32 PH.ack, .int .i64 PH.flags, .int .i64 PH.win, .int .i64 PH.urg, .string PH.opts] 24))
        clear hc2
        go_wp2_with fail
        go_ret
        exact ⟨rfl, unhide HB⟩
      case neg =>
      have d2 : decide ((K : Int) < 20 + (i : Int)) = false := by simp; omega
      have ex : S.extract 0 K = built ⟨5, 0, 0, 0, 0, 0, 0, onesS i⟩ (B.extract 0 (K - 20 - i)) := by
        have := unhide F2 K (by rw [unhide HOS]; omega)
        rw [unhide HOS] at this
        exact this
      have PE : parseE (S.extract 0 K) = 0 := by rw [ex]; exact (unhide F3 _).1
      have PS : parseS (S.extract 0 K) = B.extract 0 (K - 20 - i) := by rw [ex]; exact (unhide F3 _).2.2
      obtain ⟨Q, hQ⟩ : ∃ Q : Nat, K - 20 - i = Q := ⟨_, rfl⟩
      rw [hQ] at PS
      have hq1 : (K : Int) - 20 - (i : Int) = Q := by omega
      have hq2 : (Q : Int) ≤ B.size := by omega
      clear ex
      have pc : ∀ u, Calls Try.prog 20 #[.string (S.extract 0 K)] u fun e u' => e = .returned (.tuple #[(parseH (S.extract 0 K)).val, .string (B.extract 0 Q), .int .i64 0]) ∧ Below u.heap.size u u' := fun u => by
        have := parse_any (S.extract 0 K) u hxs
        rw [PE, PS] at this
        exact this
      have PC := hide pc
      have hSb : (S.size : Int) ≤ 1000 := by omega
      have hBb : (B.size : Int) ≤ 100 := by omega
      clear pc PE PS F1 F2 F3 HOS HSS hxz hxs hSs hBs hS hB
      generalize hX : S.extract 0 K = X at *
      generalize parseH X = PH at *
      go_wp2_with fail
      refine (unhide PC _).mono ?_
      rintro e v2 ⟨rfl, hc2⟩
      have HB := hide ((Below.then (unhide HB) hc2).alloc (Below.then (unhide HB) hc2).size (.cells #[.int .i64 PH.src, .int .i64 PH.dst, .int .u32 PH.seq, .int .u32 PH.ack, .int .i64 PH.flags, .int .i64 PH.win, .int .i64 PH.urg, .string PH.opts] 24))
      clear hc2
      go_wp2_with fail
      go_ret
      exact ⟨rfl, unhide HB⟩

theorem own : ownKnob Try.prog.godebug = none := by kernel_rfl
set_option maxRecDepth 100000 in
theorem lifted (os : Os) (started : os.Started) (H : Type) (enc : TypeId × Value → H) :
    ReturnsInHanded {} Try.checked os 8 .any (Rows.tcpCutSpec.pre6 enc Try.prog Try.f8 Rows.tcpCutRow.domain false) (Rows.tcpCutSpec.post enc Try.prog Try.f8 false true false false) := by
  refine returnsInHanded_of_change_sized (C := Try.checked) own started (by kernel_rfl) Try.func8
    (ChangeSpec.witness6 (enc := enc) (C := Try.checked) false ⟨#[], #[.string ByteArray.empty, .int .u8 0, .int .u8 0], []⟩ 8 (by kernel_rfl) (by kernel_rfl) (by kernel_rfl) (by kernel_rfl)) ?_
  intro W base args ds gs before hval0 hW hcnd hsz _
  have hval : ∀ (j : Nat) t v, Try.f8.params[j]? = some t → args[j]? = some v → Value.okWide Try.prog W .any base t v := hval0
  have hW' := hW
  obtain ⟨p, q, hA0, hV, rfl, hfz, hnd⟩ := hW
  have hA : DataW.TrodAll enc Try.prog W 0 (fun _ => true) true Try.f8.params.toList args.toList ds p := hA0
  rw [Try.params8] at hA hval
  obtain ⟨v0, vs0, d0, ds0, p0, q0, hargs, rfl, rfl, h0, r0⟩ := trodAll_cons hA
  obtain ⟨v1, vs1, d1, ds1, p1, q1, rfl, rfl, rfl, h1, r1⟩ := trodAll_cons r0
  obtain ⟨v2, vs2, d2, ds2, p2, q2, rfl, rfl, rfl, h2, r2⟩ := trodAll_cons r1
  obtain ⟨rfl, rfl, rfl⟩ := trodAll_nil r2
  obtain rfl : args = #[v0, v1, v2] := by cases args; simp_all
  obtain ⟨rfl, rfl⟩ := trodVars_none hV
  obtain ⟨a0, rfl, rfl, rfl, w0⟩ := open_string Try.underlying9 (hval 0 9 v0 rfl rfl) h0
  obtain ⟨a1, rfl, rfl, rfl, w1⟩ := open_int Try.underlying5 (hval 1 5 v1 rfl rfl) h1
  obtain ⟨a2, rfl, rfl, rfl, w2⟩ := open_int Try.underlying5 (hval 2 5 v2 rfl rfl) h2
  clear hA0 hval0
  simp only [List.append_nil] at hW'
  have z0 : a0.size ≤ 140737488355328 := by
    have hq : a0.data.toList.length ≤ reachBytes := sized_string hsz (j := 0) (t := 9) rfl rfl
    have e : a0.data.toList.length = a0.size := by rw [Array.length_toList]; rfl
    rw [e] at hq
    exact Nat.le_trans hq (by decide)
  refine (walk W a0 z0 a1 w1 a2 w2).mono fun e W' ⟨he, bel⟩ => ?_
  subst he
  exact ⟨_, rfl, _, _, _, [], _, [], hW', (trodAll_cons_mk (shut_bool Try.underlying4 _) trodAll_mk0), (trodAll_cons_mk (shut_string Try.underlying9 w0) (trodAll_cons_mk (shut_int Try.underlying5 w1) (trodAll_cons_mk (shut_int Try.underlying5 w2) trodAll_mk0))), rfl, bel.frame _, fun h => by cases h⟩

theorem over : Rows.tcpCutRow.holds Try.pinned (OpenSpec.ofChange Rows.tcpCutSpec) :=
  OpenClaim.holds_of_wide 8 Try.f8 rfl rfl rfl rfl rfl rfl rfl ⟨rfl, rfl, rfl, rfl, rfl⟩ rfl rfl rfl rfl rfl (by kernel_rfl) Try.func8 (by kernel_rfl)
    (of_decide_eq_true (by kernel_rfl)) (by unfold Func.isWrapper; first | (rw [if_pos (by decide +kernel)]; kernel_rfl) | (rw [if_neg (by decide +kernel)]; exact ⟨rfl, rfl⟩))
    (fun os started H enc _ => lifted os started H enc)

theorem proved : Rows.TcpCutSaid := over
#print axioms proved
end Go.Proofs.Ytgfmpcfdggcifaa.tcpCut
