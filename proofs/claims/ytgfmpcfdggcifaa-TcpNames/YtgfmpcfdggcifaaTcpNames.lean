/- The law TcpNames returns true for every number of flags and others. -/
import Derived.Test.YtgfmpcfdggcifaaRows
import Derived.OpenShut
import Derived.ShutString
import Derived.ChangeOld
import Derived.Below
import Derived.SizedLaws
import Derived.Test.YtgfmpcfdggcifaaTcOpen
import Derived.Test.YtgfmpcfdggcifaaTcEx
namespace Go.Proofs.Ytgfmpcfdggcifaa.tcpNames
open Go.ChangeShapes Go.WideShapes Go.ChangeAt Go.RowKit
open Go.ChangeMaps (open_string shut_string)
set_option linter.unusedVariables false
theorem name_all : ∀ k : Fin 64, ∀ i : Fin 6, (k.val : Int) / 2 ^ i.val % 2 = 1 → (nameN k.val i.val).size < (nameN k.val 6).size ∧ (nameN k.val 6).data.toList.getD (nameN k.val i.val).size 0 = letter i.val := by decide +kernel
theorem name_at {k : Int} {i : Nat} (h0 : 0 ≤ k) (h1 : k < 64) (hi : i < 6) (hb : k / 2 ^ i % 2 = 1) : (nameN k i).size < (nameN k 6).size ∧ (nameN k 6).data.toList.getD (nameN k i).size 0 = letter i := by
  obtain ⟨n, rfl⟩ := Int.eq_ofNat_of_zero_le h0
  exact name_all ⟨n, by omega⟩ ⟨i, hi⟩ hb
theorem name_step (k : Int) (i : Nat) : (nameN k (i + 1)).size = if k / 2 ^ i % 2 = 1 then (nameN k i).size + 1 else (nameN k i).size := by
  rw [nameN]
  split
  · rw [ByteArray.size_append]; rfl
  · rfl
theorem or_same {k : Int} (h0 : 0 ≤ k) (h1 : k < 64) (y : Int) : nameN (bits .or .i64 k (wrap64 (y * 64))) 6 = nameN k 6 := by
  rw [← nameN_low _ 6 (Nat.le_refl _), low_or k _ h0 h1 (by unfold wrap64; omega)]
theorem lets_at (i : Nat) (hi : i < 6) : ((⟨#[70, 83, 82, 80, 65, 85]⟩ : ByteArray)[i]'hi).toNat = (letter i).toNat := by
  have h : i = 0 ∨ i = 1 ∨ i = 2 ∨ i = 3 ∨ i = 4 ∨ i = 5 := by omega
  rcases h with rfl | rfl | rfl | rfl | rfl | rfl <;> rfl
set_option maxHeartbeats 4000000 in
set_option maxRecDepth 100000 in
theorem walk (w : World) (a0 : Int) (w0 : (Lit.int .u8 a0).wf = true) (a1 : Int) (w1 : (Lit.int .i64 a1).wf = true) :
    Calls Try.prog 6 #[.int .u8 a0, .int .i64 a1] w fun e w' => e = .returned (.bool true) ∧ Below w.heap.size w w' := by
  obtain ⟨x0, x1⟩ := bounds_u8 w0
  obtain ⟨y0, y1⟩ := bounds_i64 w1
  obtain ⟨k, hk⟩ : ∃ k : Int, a0 % 64 = k := ⟨_, rfl⟩
  have k0 : 0 ≤ k := by omega
  have k1 : k < 64 := by omega
  go_enter Try.func6, Try.ntmps6
  go_wp2_with fail
  refine (examples_ok _).mono ?_
  rintro e w1' ⟨rfl, hb1⟩
  have HB := hide hb1
  clear hb1
  go_wp2_with fail
  refine (name_any k _).mono ?_
  rintro e w2 ⟨rfl, hb2⟩
  have HB := hide (Below.then (unhide HB) hb2)
  clear hb2
  go_wp2
  clear hk w0 x0 x1
  go_loopw [8, 9] (fun c t W => ∃ i : Nat, i ≤ 6 ∧ t = .int .i64 i ∧ c = .int .i64 (nameN k i).size ∧ Below w.heap.size w W) (fun _ t _ => 6 - (intOf t).toNat)
  case atStart => exact ⟨0, Nat.zero_le _, rfl, rfl, unhide HB⟩
  case round =>
    obtain ⟨ix, hi, rfl, rfl, hb⟩ := hrel
    have HB := hide hb
    have hwz := hb.size
    clear hb
    by_cases he : ix = 6
    · subst he
      go_wp2_with fail
      refine (name_any _ _).mono ?_
      rintro e w3 ⟨rfl, hb3⟩
      rw [or_same k0 k1 a1]
      have HB := hide (Below.then (unhide HB) hb3)
      clear hb3
      go_wp2_with fail
      go_ret
      exact ⟨rfl, unhide HB⟩
    · have hi6 : ix < 6 := by omega
      have hst := name_step k ix
      have q0 : 0 ≤ k / 2 ^ ix := Int.ediv_nonneg k0 (Int.pow_nonneg (by decide))
      have hrm : (k / 2 ^ ix).tmod 2 = k / 2 ^ ix % 2 := Int.tmod_eq_emod_of_nonneg q0
      by_cases hbit : k / 2 ^ ix % 2 = 1
      case neg =>
        rw [if_neg hbit] at hst
        have hb0 : k / 2 ^ ix % 2 = 0 := by omega
        have HST := hide hst
        clear hst hbit
        generalize hQ : k / 2 ^ ix = Q at *
        go_wp2_with fail
        go_roundw
        case rel => exact ⟨ix + 1, by omega, by go_num, by rw [unhide HST], unhide HB⟩
        case measure => simp [intOf]; omega
      case pos =>
        rw [if_pos hbit] at hst
        obtain ⟨hc, hL⟩ := name_at k0 k1 hi6 hbit
        have hc6 := nameN_size k 6
        have HST := hide hst
        rw [getD_byte _ _ hc] at hL
        have hLn : ((nameN k 6)[(nameN k ix).size]'hc).toNat = (letter ix).toNat := by rw [hL]
        have hLl := lets_at ix hi6
        clear hst hL
        generalize nameN k 6 = N6 at *
        generalize (nameN k ix).size = c at *
        generalize hQ : k / 2 ^ ix = Q at *
        have hi7 : ¬ (6 : Int) ≤ (ix : Int) := by omega
        have hcn : ¬ (N6.size : Int) ≤ c := by omega
        go_wp2_with fail
        refine wp_region_grow (by kernel_rfl) [.int .i64 (c : Int), .string N6, .int .i64 (N6.size : Int), .bool false, .bool false, .string N6, .int .i64 (c : Int), .int .u8 ((letter ix).toNat : Int), .int .i64 (ix : Int), .int .u8 ((letter ix).toNat : Int), .bool false, .bool false] (by kernel_rfl) ?op ?fin
        case op =>
          intro i o bx u ho hbel hS
          match i, ho with
          | 0, ho =>
            obtain rfl := Option.some.inj ho
            have d8 : bx.tmps.getD 8 undef = .int .i64 (c : Int) := hS.base 8 (by kernel_rfl)
            refine .inl ⟨rfl, ends_value' (c := .int .i64 (c : Int)) ?_⟩
            simp [execOp, Act.eval, d8]
          | 1, ho =>
            obtain rfl := Option.some.inj ho
            have d7 : bx.tmps.getD 7 undef = .string N6 := hS.base 7 (by kernel_rfl)
            refine .inl ⟨rfl, ends_value' (c := .string N6) ?_⟩
            simp [execOp, Act.eval, d7]
          | 2, ho =>
            obtain rfl := Option.some.inj ho
            have d28 : bx.tmps.getD 28 undef = .string N6 := hS.dep 1 28 (by kernel_rfl) (by kernel_rfl)
            refine .inl ⟨rfl, ends_value' (c := .int .i64 (N6.size : Int)) ?_⟩
            simp [Act.eval, d28, go_sem]
          | 3, ho =>
            obtain rfl := Option.some.inj ho
            have d27 : bx.tmps.getD 27 undef = .int .i64 (c : Int) := hS.dep 0 27 (by kernel_rfl) (by kernel_rfl)
            have d29 : bx.tmps.getD 29 undef = .int .i64 (N6.size : Int) := hS.dep 2 29 (by kernel_rfl) (by kernel_rfl)
            refine .inl ⟨rfl, ends_value' (c := .bool false) ?_⟩
            simp [Act.eval, d27, d29, go_sem, hc]
          | 4, ho =>
            obtain rfl := Option.some.inj ho
            have d30 : bx.tmps.getD 30 undef = .bool false := hS.dep 3 30 (by kernel_rfl) (by kernel_rfl)
            refine .inl ⟨rfl, ends_value' (c := .bool false) ?_⟩
            simp [execOp, Act.eval, d30]
          | 5, ho =>
            obtain rfl := Option.some.inj ho
            have d7 : bx.tmps.getD 7 undef = .string N6 := hS.base 7 (by kernel_rfl)
            have gd : bx.tmps.getD 31 undef = .bool false := hS.dep 4 31 (by kernel_rfl) (by kernel_rfl)
            refine .inl ⟨wanted_yes (j := 4) (t := 31) (c := false) (by kernel_rfl) (by kernel_rfl) gd, ends_value' (c := .string N6) ?_⟩
            simp [execOp, Act.eval, d7]
          | 6, ho =>
            obtain rfl := Option.some.inj ho
            have d8 : bx.tmps.getD 8 undef = .int .i64 (c : Int) := hS.base 8 (by kernel_rfl)
            have gd : bx.tmps.getD 31 undef = .bool false := hS.dep 4 31 (by kernel_rfl) (by kernel_rfl)
            refine .inl ⟨wanted_yes (j := 4) (t := 31) (c := false) (by kernel_rfl) (by kernel_rfl) gd, ends_value' (c := .int .i64 (c : Int)) ?_⟩
            simp [execOp, Act.eval, d8]
          | 7, ho =>
            obtain rfl := Option.some.inj ho
            have d32 : bx.tmps.getD 32 undef = .string N6 := hS.dep 5 32 (by kernel_rfl) (by kernel_rfl)
            have d33 : bx.tmps.getD 33 undef = .int .i64 (c : Int) := hS.dep 6 33 (by kernel_rfl) (by kernel_rfl)
            have gd : bx.tmps.getD 31 undef = .bool false := hS.dep 4 31 (by kernel_rfl) (by kernel_rfl)
            refine .inl ⟨wanted_yes (j := 4) (t := 31) (c := false) (by kernel_rfl) (by kernel_rfl) gd, ends_value' (c := .int .u8 ((letter ix).toNat : Int)) ?_⟩
            simp [Act.eval, d32, d33, go_sem, hc, hLn]
          | 8, ho =>
            obtain rfl := Option.some.inj ho
            have d9 : bx.tmps.getD 9 undef = .int .i64 (ix : Int) := hS.base 9 (by kernel_rfl)
            have gd : bx.tmps.getD 31 undef = .bool false := hS.dep 4 31 (by kernel_rfl) (by kernel_rfl)
            refine .inl ⟨wanted_yes (j := 4) (t := 31) (c := false) (by kernel_rfl) (by kernel_rfl) gd, ends_value' (c := .int .i64 (ix : Int)) ?_⟩
            simp [execOp, Act.eval, d9]
          | 9, ho =>
            obtain rfl := Option.some.inj ho
            have d35 : bx.tmps.getD 35 undef = .int .i64 (ix : Int) := hS.dep 8 35 (by kernel_rfl) (by kernel_rfl)
            have gd : bx.tmps.getD 31 undef = .bool false := hS.dep 4 31 (by kernel_rfl) (by kernel_rfl)
            refine .inl ⟨wanted_yes (j := 4) (t := 31) (c := false) (by kernel_rfl) (by kernel_rfl) gd, ends_value' (c := .int .u8 ((letter ix).toNat : Int)) ?_⟩
            simp [Act.eval, d35, go_sem, hLl, hi7]
          | 10, ho =>
            obtain rfl := Option.some.inj ho
            have d34 : bx.tmps.getD 34 undef = .int .u8 ((letter ix).toNat : Int) := hS.dep 7 34 (by kernel_rfl) (by kernel_rfl)
            have d36 : bx.tmps.getD 36 undef = .int .u8 ((letter ix).toNat : Int) := hS.dep 9 36 (by kernel_rfl) (by kernel_rfl)
            have gd : bx.tmps.getD 31 undef = .bool false := hS.dep 4 31 (by kernel_rfl) (by kernel_rfl)
            refine .inl ⟨wanted_yes (j := 4) (t := 31) (c := false) (by kernel_rfl) (by kernel_rfl) gd, ends_value' (c := .bool false) ?_⟩
            simp [Act.eval, d34, d36, go_sem]
          | 11, ho =>
            obtain rfl := Option.some.inj ho
            have d31 : bx.tmps.getD 31 undef = .bool false := hS.dep 4 31 (by kernel_rfl) (by kernel_rfl)
            have d37 : bx.tmps.getD 37 undef = .bool false := hS.dep 10 37 (by kernel_rfl) (by kernel_rfl)
            refine .inl ⟨rfl, ends_value' (c := .bool false) ?_⟩
            simp [Act.eval, d31, d37, go_sem]
          | n + 12, ho => exact absurd ho (by simp)
        case fin =>
          intro u hbel
          simp [putAll, dstAt, Act.put]
          have HB2 := hide ((unhide HB).drew.trans (hbel.mono hwz))
          clear hbel
          go_wp2_with fail
          go_roundw
          case rel => exact ⟨ix + 1, by omega, by go_num, by rw [unhide HST]; go_num, unhide HB2⟩
          case measure => simp [intOf]; omega

theorem own : ownKnob Try.prog.godebug = none := by kernel_rfl
set_option maxRecDepth 100000 in
theorem lifted (os : Os) (started : os.Started) (H : Type) (enc : TypeId × Value → H) :
    ReturnsInHanded {} Try.checked os 6 .any (Rows.tcpNamesSpec.pre6 enc Try.prog Try.f6 Rows.tcpNamesRow.domain false) (Rows.tcpNamesSpec.post enc Try.prog Try.f6 false true false false) := by
  refine returnsInHanded_of_change_sized (C := Try.checked) own started (by kernel_rfl) Try.func6
    (ChangeSpec.witness6 (enc := enc) (C := Try.checked) false ⟨#[], #[.int .u8 0, .int .i64 0], []⟩ 8 (by kernel_rfl) (by kernel_rfl) (by kernel_rfl) (by kernel_rfl)) ?_
  intro W base args ds gs before hval0 hW hcnd hsz _
  have hval : ∀ (j : Nat) t v, Try.f6.params[j]? = some t → args[j]? = some v → Value.okWide Try.prog W .any base t v := hval0
  have hW' := hW
  obtain ⟨p, q, hA0, hV, rfl, hfz, hnd⟩ := hW
  have hA : DataW.TrodAll enc Try.prog W 0 (fun _ => true) true Try.f6.params.toList args.toList ds p := hA0
  rw [Try.params6] at hA hval
  obtain ⟨v0, vs0, d0, ds0, p0, q0, hargs, rfl, rfl, h0, r0⟩ := trodAll_cons hA
  obtain ⟨v1, vs1, d1, ds1, p1, q1, rfl, rfl, rfl, h1, r1⟩ := trodAll_cons r0
  obtain ⟨rfl, rfl, rfl⟩ := trodAll_nil r1
  obtain rfl : args = #[v0, v1] := by cases args; simp_all
  obtain ⟨rfl, rfl⟩ := trodVars_none hV
  obtain ⟨a0, rfl, rfl, rfl, w0⟩ := open_int Try.underlying5 (hval 0 5 v0 rfl rfl) h0
  obtain ⟨a1, rfl, rfl, rfl, w1⟩ := open_int Try.underlying3 (hval 1 3 v1 rfl rfl) h1
  clear hA0 hval0
  simp only [List.append_nil] at hW'
  refine (walk W a0 w0 a1 w1).mono fun e W' ⟨he, bel⟩ => ?_
  subst he
  exact ⟨_, rfl, _, _, _, [], _, [], hW', (trodAll_cons_mk (shut_bool Try.underlying4 _) trodAll_mk0), (trodAll_cons_mk (shut_int Try.underlying5 w0) (trodAll_cons_mk (shut_int Try.underlying3 w1) trodAll_mk0)), rfl, bel.frame _, fun h => by cases h⟩

theorem over : Rows.tcpNamesRow.holds Try.pinned (OpenSpec.ofChange Rows.tcpNamesSpec) :=
  OpenClaim.holds_of_wide 6 Try.f6 rfl rfl rfl rfl rfl rfl rfl ⟨rfl, rfl, rfl, rfl, rfl⟩ rfl rfl rfl rfl rfl (by kernel_rfl) Try.func6 (by kernel_rfl)
    (of_decide_eq_true (by kernel_rfl)) (by unfold Func.isWrapper; first | (rw [if_pos (by decide +kernel)]; kernel_rfl) | (rw [if_neg (by decide +kernel)]; exact ⟨rfl, rfl⟩))
    (fun os started H enc _ => lifted os started H enc)

theorem proved : Rows.TcpNamesSaid := over
#print axioms proved
end Go.Proofs.Ytgfmpcfdggcifaa.tcpNames
